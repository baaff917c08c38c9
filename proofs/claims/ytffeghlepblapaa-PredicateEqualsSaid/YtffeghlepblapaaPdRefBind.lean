
/- The reference's Bind. -/
import Derived.Test.YtffeghlepblapaaPdBindMem

import Derived.Test.YtffeghlepblapaaPdBindOp

import Derived.Test.YtffeghlepblapaaPdHolds

import Derived.Test.YtffeghlepblapaaIvLeaf

import Derived.Deep.RegionHeld3

import Derived.Deep.CutRange

import Derived.Deep.CutBlock

import Derived.Deep.DeepCutAuto

namespace Go.Proofs.Ytffeghlepblapaa

open Go.RowKit Go.Deep

def RBindAt (Q : List V) (p : PT) : Prop := ∀ (v qv : Value) (w : World), Pd w v p → RowAt w qv Q → widP p → Calls Try.prog 21 #[v, qv] w (BindPost Q p w)

set_option linter.unusedSimpArgs false in
set_option maxRecDepth 100000 in
set_option maxHeartbeats 1000000 in
theorem rBindP_any (Q : List V) : ∀ (d : Nat) (p : PT), p.depth ≤ d → RBindAt Q p
  | 0, p, hd => by have := p.depth_pos; omega
  | d + 1, p, hd => by
    intro v qv w h hq hwid
    have hIH : ∀ j (hj : j < p.args.length), RBindAt Q p.args[j] := fun j hj => rBindP_any Q d _ (PT.depth_arg hj hd)
    obtain ⟨op, cmp, lk, li, lvk, lvn, lvs, rk, ri, rvk, rvn, rvs, ps, a, c, rfl, rfl, hp⟩ := pd_fields h
    change ∀ j (hj : j < ps.length), RBindAt Q ps[j] at hIH
    obtain ⟨hn34, hwl⟩ := hwid.args
    change ps.length ≤ _ at hn34
    change widL ps at hwl
    have HL : Hid (∀ W, Below w.heap.size w W → Calls Try.prog 46 #[.agg #[.int .i64 lk, .int .i64 li, .int .i64 lvk, .int .i64 lvn, .string lvs], qv] W fun e w' => e = .returned (oA (bndO Q ⟨lk, li, ⟨lvk, lvn, lvs⟩⟩)) ∧ Below W.heap.size W w') := fun W hb => rBound_any ⟨lk, li, ⟨lvk, lvn, lvs⟩⟩ qv Q W (hq.blw hb)
    have HR : Hid (∀ W, Below w.heap.size w W → Calls Try.prog 46 #[.agg #[.int .i64 rk, .int .i64 ri, .int .i64 rvk, .int .i64 rvn, .string rvs], qv] W fun e w' => e = .returned (oA (bndO Q ⟨rk, ri, ⟨rvk, rvn, rvs⟩⟩)) ∧ Below W.heap.size W w') := fun W hb => rBound_any ⟨rk, ri, ⟨rvk, rvn, rvs⟩⟩ qv Q W (hq.blw hb)
    have HIH := Lib.hid hIH
    have HP := Lib.hid hp
    have HQV := Lib.hid hq
    have HWL := Lib.hid hwl
    have HPOST : Hid (∀ e w', (∃ (a : Option Addr) (c : Nat), e = .returned (pdV (.mk op cmp (bndO Q ⟨lk, li, ⟨lvk, lvn, lvs⟩⟩) (bndO Q ⟨rk, ri, ⟨rvk, rvn, rvs⟩⟩) (bndL Q ps)) a c) ∧ PdS (fun b => w.heap.size < b) w' (bndL Q ps) a c ∧ Below w.heap.size w w') → BindPost Q (.mk op cmp ⟨lk, li, ⟨lvk, lvn, lvs⟩⟩ ⟨rk, ri, ⟨rvk, rvn, rvs⟩⟩ ps) w e w') := fun e w' hh => by
      unfold BindPost; rw [bndP_mk]; exact hh
    generalize bndO Q ⟨lk, li, ⟨lvk, lvn, lvs⟩⟩ = bl at *
    generalize bndO Q ⟨rk, ri, ⟨rvk, rvn, rvs⟩⟩ = br at *
    obtain ⟨xlk, xli, ⟨xlvk, xlvn, xlvs⟩⟩ := bl
    obtain ⟨xrk, xri, ⟨xrvk, xrvn, xrvs⟩⟩ := br
    simp only [oA] at HL HR
    obtain ⟨n, hn⟩ : ∃ n, ps.length = n := ⟨_, rfl⟩
    have HN := Lib.hid hn
    have hnc : n ≤ c := by have := hp.1.le; omega
    rw [hn] at hn34
    rw [hn]
    clear hd h hIH hp hq hwid hwl hn
    go_enter Try.func21, Try.ntmps21
    go_upto_region 1 with fail
    obtain ⟨wq, hwq⟩ : ∃ wq, (w.alloc (.cells #[.int .i64 op, .int .i64 cmp, .int .i64 lk, .int .i64 li, .int .i64 lvk, .int .i64 lvn, .string lvs, .int .i64 rk, .int .i64 ri, .int .i64 rvk, .int .i64 rvn, .string rvs, .slice a n c] 29)).alloc (.cells #[.int .i64 0, .int .i64 0, .int .i64 0, .int .i64 0, .int .i64 0, .int .i64 0, .string ⟨#[]⟩, .int .i64 0, .int .i64 0, .int .i64 0, .int .i64 0, .string ⟨#[]⟩, .slice none 0 0] 29) = wq := ⟨_, rfl⟩
    have HB0 : Hid (Below w.heap.size w wq) := by rw [← hwq]; exact ((Below.refl _ _).alloc (Nat.le_refl _) _).alloc (by simp) _
    have hzq : wq.heap.size = w.heap.size + 2 := by rw [← hwq]; simp
    have RB0 : Hid (RBx wq (w.heap.size + 1)) := by
      have := rbx_new (w.alloc (.cells #[.int .i64 op, .int .i64 cmp, .int .i64 lk, .int .i64 li, .int .i64 lvk, .int .i64 lvn, .string lvs, .int .i64 rk, .int .i64 ri, .int .i64 rvk, .int .i64 rvn, .string rvs, .slice a n c] 29))
      rw [World.size_alloc, hwq] at this
      exact this
    have c0 : wq.cell? ⟨w.heap.size, 0, none⟩ = some (.int .i64 op) := by subst hwq; go_simp
    have c1 : wq.cell? ⟨w.heap.size, 1, none⟩ = some (.int .i64 cmp) := by subst hwq; go_simp
    have c2 : wq.cell? ⟨w.heap.size, 2, none⟩ = some (.int .i64 lk) := by subst hwq; go_simp
    have c3 : wq.cell? ⟨w.heap.size, 3, none⟩ = some (.int .i64 li) := by subst hwq; go_simp
    have c4 : wq.cell? ⟨w.heap.size, 4, none⟩ = some (.int .i64 lvk) := by subst hwq; go_simp
    have c5 : wq.cell? ⟨w.heap.size, 5, none⟩ = some (.int .i64 lvn) := by subst hwq; go_simp
    have c6 : wq.cell? ⟨w.heap.size, 6, none⟩ = some (.string lvs) := by subst hwq; go_simp
    have c7 : wq.cell? ⟨w.heap.size, 7, none⟩ = some (.int .i64 rk) := by subst hwq; go_simp
    have c8 : wq.cell? ⟨w.heap.size, 8, none⟩ = some (.int .i64 ri) := by subst hwq; go_simp
    have c9 : wq.cell? ⟨w.heap.size, 9, none⟩ = some (.int .i64 rvk) := by subst hwq; go_simp
    have c10 : wq.cell? ⟨w.heap.size, 10, none⟩ = some (.int .i64 rvn) := by subst hwq; go_simp
    have c11 : wq.cell? ⟨w.heap.size, 11, none⟩ = some (.string rvs) := by subst hwq; go_simp
    have c12 : wq.cell? ⟨w.heap.size, 12, none⟩ = some (.slice a n c) := by subst hwq; go_simp
    have HK : Hid (∀ W, Below wq.heap.size wq W → W.cell? ⟨w.heap.size, 0, none⟩ = some (.int .i64 op) ∧ W.cell? ⟨w.heap.size, 1, none⟩ = some (.int .i64 cmp) ∧ W.cell? ⟨w.heap.size, 2, none⟩ = some (.int .i64 lk) ∧ W.cell? ⟨w.heap.size, 3, none⟩ = some (.int .i64 li) ∧ W.cell? ⟨w.heap.size, 4, none⟩ = some (.int .i64 lvk) ∧ W.cell? ⟨w.heap.size, 5, none⟩ = some (.int .i64 lvn) ∧ W.cell? ⟨w.heap.size, 6, none⟩ = some (.string lvs) ∧ W.cell? ⟨w.heap.size, 7, none⟩ = some (.int .i64 rk) ∧ W.cell? ⟨w.heap.size, 8, none⟩ = some (.int .i64 ri) ∧ W.cell? ⟨w.heap.size, 9, none⟩ = some (.int .i64 rvk) ∧ W.cell? ⟨w.heap.size, 10, none⟩ = some (.int .i64 rvn) ∧ W.cell? ⟨w.heap.size, 11, none⟩ = some (.string rvs)) := fun W hb => ⟨(hb.cell (p := ⟨w.heap.size, 0, none⟩) (show w.heap.size < _ by omega)).trans c0, (hb.cell (p := ⟨w.heap.size, 1, none⟩) (show w.heap.size < _ by omega)).trans c1, (hb.cell (p := ⟨w.heap.size, 2, none⟩) (show w.heap.size < _ by omega)).trans c2, (hb.cell (p := ⟨w.heap.size, 3, none⟩) (show w.heap.size < _ by omega)).trans c3, (hb.cell (p := ⟨w.heap.size, 4, none⟩) (show w.heap.size < _ by omega)).trans c4, (hb.cell (p := ⟨w.heap.size, 5, none⟩) (show w.heap.size < _ by omega)).trans c5, (hb.cell (p := ⟨w.heap.size, 6, none⟩) (show w.heap.size < _ by omega)).trans c6, (hb.cell (p := ⟨w.heap.size, 7, none⟩) (show w.heap.size < _ by omega)).trans c7, (hb.cell (p := ⟨w.heap.size, 8, none⟩) (show w.heap.size < _ by omega)).trans c8, (hb.cell (p := ⟨w.heap.size, 9, none⟩) (show w.heap.size < _ by omega)).trans c9, (hb.cell (p := ⟨w.heap.size, 10, none⟩) (show w.heap.size < _ by omega)).trans c10, (hb.cell (p := ⟨w.heap.size, 11, none⟩) (show w.heap.size < _ by omega)).trans c11⟩
    have HK12 : Hid (∀ W, Below wq.heap.size wq W → W.cell? ⟨w.heap.size, 12, none⟩ = some (.slice a n c)) := fun W hb => (hb.cell (p := ⟨w.heap.size, 12, none⟩) (show w.heap.size < _ by omega)).trans c12
    have HL1 : Hid (∀ W, Below wq.heap.size wq W → Calls Try.prog 46 #[.agg #[.int .i64 lk, .int .i64 li, .int .i64 lvk, .int .i64 lvn, .string lvs], qv] W fun e w' => e = .returned (.agg #[.int .i64 xlk, .int .i64 xli, .int .i64 xlvk, .int .i64 xlvn, .string xlvs]) ∧ Below W.heap.size W w') := fun W hb => HL.out W (HB0.out.trans (hb.mono (by omega)))
    have HR1 : Hid (∀ W, Below wq.heap.size wq W → Calls Try.prog 46 #[.agg #[.int .i64 rk, .int .i64 ri, .int .i64 rvk, .int .i64 rvn, .string rvs], qv] W fun e w' => e = .returned (.agg #[.int .i64 xrk, .int .i64 xri, .int .i64 xrvk, .int .i64 xrvn, .string xrvs]) ∧ Below W.heap.size W w') := fun W hb => HR.out W (HB0.out.trans (hb.mono (by omega)))
    rw [hwq]
    clear hwq c0 c1 c2 c3 c4 c5 c6 c7 c8 c9 c10 c11 c12 HL HR
    go_cut [5] (fun s5 wx => ∃ pb : Nat, s5 = .pointer (some ⟨pb, 0, none⟩) ∧ w.heap.size + 2 ≤ pb ∧ Hid (Below wq.heap.size wq wx ∧ HBx wx pb op cmp ⟨xlk, xli, ⟨xlvk, xlvn, xlvs⟩⟩ ⟨xrk, xri, ⟨xrvk, xrvn, xrvs⟩⟩ (.slice none 0 0)))
    case first =>
      clear HIH HP HWL HPOST HK12 HN
      refine wp_region_held_drew (S := fun W => W.cell? ⟨w.heap.size, 0, none⟩ = some (.int .i64 op) ∧ W.cell? ⟨w.heap.size, 1, none⟩ = some (.int .i64 cmp) ∧ W.cell? ⟨w.heap.size, 2, none⟩ = some (.int .i64 lk) ∧ W.cell? ⟨w.heap.size, 3, none⟩ = some (.int .i64 li) ∧ W.cell? ⟨w.heap.size, 4, none⟩ = some (.int .i64 lvk) ∧ W.cell? ⟨w.heap.size, 5, none⟩ = some (.int .i64 lvn) ∧ W.cell? ⟨w.heap.size, 6, none⟩ = some (.string lvs) ∧ W.cell? ⟨w.heap.size, 7, none⟩ = some (.int .i64 rk) ∧ W.cell? ⟨w.heap.size, 8, none⟩ = some (.int .i64 ri) ∧ W.cell? ⟨w.heap.size, 9, none⟩ = some (.int .i64 rvk) ∧ W.cell? ⟨w.heap.size, 10, none⟩ = some (.int .i64 rvn) ∧ W.cell? ⟨w.heap.size, 11, none⟩ = some (.string rvs)) (by kernel_rfl) (HK.out _ (Below.refl _ _).drew) (fun hHeld => ?_)
      obtain ⟨wd, hwd⟩ : ∃ wd, wq.drew = wd := ⟨_, rfl⟩
      have BW : Hid (Below wq.heap.size wq wd) := by rw [← hwd]; exact (Below.refl _ _).drew
      rw [hwd] at hHeld ⊢
      clear hwd
      refine wpAnyH_takeD (i := 0) (d := 7) (v := ?_) rfl rfl (by kernel_rfl) (by kernel_rfl) (by kernel_rfl) (fun _ _ _ h => h) (Or.inl ⟨by rfl, ?_⟩) (by assumption) ?_; rotate_left
      · intro W hSw; (try dsimp only at hSw); go_simp; (try with_reducible rfl)
      (try simp only [List.set_cons_zero, List.set_cons_succ])
      refine wpAnyH_takeD (i := 1) (d := 8) (v := ?_) rfl rfl (by kernel_rfl) (by kernel_rfl) (by kernel_rfl) (fun _ _ _ h => h) (Or.inl ⟨by rfl, ?_⟩) (by assumption) ?_; rotate_left
      · intro W hSw; (try dsimp only at hSw); go_simp; (try with_reducible rfl)
      (try simp only [List.set_cons_zero, List.set_cons_succ])
      refine wpAnyH_takeD (i := 2) (d := 9) (v := ?_) rfl rfl (by kernel_rfl) (by kernel_rfl) (by kernel_rfl) (fun _ _ _ h => h) (Or.inl ⟨by rfl, ?_⟩) (by assumption) ?_; rotate_left
      · intro W hSw; (try dsimp only at hSw); go_simp; (try with_reducible rfl)
      (try simp only [List.set_cons_zero, List.set_cons_succ])
      refine wpAnyH_takeD (i := 3) (d := 10) (v := ?_) rfl rfl (by kernel_rfl) (by kernel_rfl) (by kernel_rfl) (fun _ _ _ h => h) (Or.inl ⟨by rfl, ?_⟩) (by assumption) ?_; rotate_left
      · intro W hSw; (try dsimp only at hSw); go_simp; (try with_reducible rfl)
      (try simp only [List.set_cons_zero, List.set_cons_succ])
      refine wpAnyH_takeD (i := 4) (d := 11) (v := ?_) rfl rfl (by kernel_rfl) (by kernel_rfl) (by kernel_rfl) (fun _ _ _ h => h) (Or.inl ⟨by rfl, ?_⟩) (by assumption) ?_; rotate_left
      · intro W hSw; (try dsimp only at hSw); go_simp; (try with_reducible rfl)
      (try simp only [List.set_cons_zero, List.set_cons_succ])
      refine wpAnyH_takeD (i := 5) (d := 12) (v := ?_) rfl rfl (by kernel_rfl) (by kernel_rfl) (by kernel_rfl) (fun _ _ _ h => h) (Or.inl ⟨by rfl, ?_⟩) (by assumption) ?_; rotate_left
      · intro W hSw; (try dsimp only at hSw); go_simp; (try with_reducible rfl)
      (try simp only [List.set_cons_zero, List.set_cons_succ])
      refine wpAnyH_takeD (i := 6) (d := 13) (v := ?_) rfl rfl (by kernel_rfl) (by kernel_rfl) (by kernel_rfl) (fun _ _ _ h => h) (Or.inl ⟨by rfl, ?_⟩) (by assumption) ?_; rotate_left
      · intro W hSw; (try dsimp only at hSw); go_simp; (try with_reducible rfl)
      (try simp only [List.set_cons_zero, List.set_cons_succ])
      refine wpAnyH_takeD (i := 8) (d := 15) (v := ?_) rfl rfl (by kernel_rfl) (by kernel_rfl) (by kernel_rfl) (fun _ _ _ h => h) (Or.inl ⟨by rfl, ?_⟩) (by assumption) ?_; rotate_left
      · intro W hSw; (try dsimp only at hSw); go_simp; (try with_reducible rfl)
      (try simp only [List.set_cons_zero, List.set_cons_succ])
      refine wpAnyH_takeD (i := 9) (d := 16) (v := ?_) rfl rfl (by kernel_rfl) (by kernel_rfl) (by kernel_rfl) (fun _ _ _ h => h) (Or.inl ⟨by rfl, ?_⟩) (by assumption) ?_; rotate_left
      · intro W hSw; (try dsimp only at hSw); go_simp; (try with_reducible rfl)
      (try simp only [List.set_cons_zero, List.set_cons_succ])
      refine wpAnyH_takeD (i := 10) (d := 17) (v := ?_) rfl rfl (by kernel_rfl) (by kernel_rfl) (by kernel_rfl) (fun _ _ _ h => h) (Or.inl ⟨by rfl, ?_⟩) (by assumption) ?_; rotate_left
      · intro W hSw; (try dsimp only at hSw); go_simp; (try with_reducible rfl)
      (try simp only [List.set_cons_zero, List.set_cons_succ])
      refine wpAnyH_ready (rs := [7, 13]) (by kernel_rfl) (by simp) ?_
      refine (AllReadyH.cons rfl (fun K hK => ?_) (AllReadyH.cons rfl (fun K hK => ?_) AllReadyH.nil))
      · go_simp
        go_at_call 46
        refine (HL1.out _ BW.out).mono ?_
        rintro e wcL ⟨rfl, hg⟩
        clear hHeld
        replace BW := Lib.hid (below_go BW.out hg)
        clear hg
        refine hK.out _ _ (HK.out _ BW.out) (fun hHeld => ?_)
        clear hK K
        (try simp only [List.set_cons_zero, List.set_cons_succ])
        refine wpAnyH_ready (rs := [11, 13]) (by kernel_rfl) (by simp) ?_
        refine (AllReadyH.cons rfl (fun K hK => ?_) (AllReadyH.cons rfl (fun K hK => ?_) AllReadyH.nil))
        · go_simp
          go_at_call 46
          refine (HR1.out _ BW.out).mono ?_
          rintro e wcR ⟨rfl, hg⟩
          clear hHeld
          replace BW := Lib.hid (below_go BW.out hg)
          clear hg
          refine hK.out _ _ (HK.out _ BW.out) (fun hHeld => ?_)
          clear hK K
          (try simp only [List.set_cons_zero, List.set_cons_succ])
          refine wpAnyH_takeD (i := 12) (d := 19) (v := ?_) rfl rfl (by kernel_rfl) (by kernel_rfl) (by kernel_rfl) (fun _ _ _ h => h) (Or.inl ⟨by rfl, ?_⟩) (by assumption) ?_; rotate_left
          · intro W hSw; (try dsimp only at hSw); go_simp; (try with_reducible rfl)
          (try simp only [List.set_cons_zero, List.set_cons_succ])
          refine wpAnyH_ready (rs := [13]) (by kernel_rfl) (by simp) ?_
          refine (AllReadyH.cons rfl (fun K hK => ?_) AllReadyH.nil)
          · go_simp
            clear hHeld
            skip
            obtain ⟨pb, hpb⟩ : ∃ pb, wcR.heap.size = pb := ⟨_, rfl⟩
            obtain ⟨wa, hwa⟩ : ∃ wa, wcR.alloc (.cells #[.int .i64 0, .int .i64 0, .int .i64 0, .int .i64 0, .int .i64 0, .int .i64 0, .string ⟨#[]⟩, .int .i64 0, .int .i64 0, .int .i64 0, .int .i64 0, .string ⟨#[]⟩, .slice none 0 0] 29) = wa := ⟨_, rfl⟩
            have RBN : Hid (RBx wa pb) := by rw [← hwa, ← hpb]; exact rbx_new _
            have hpq : w.heap.size + 2 ≤ pb := by have := BW.out.size; omega
            replace BW : Hid (Below wq.heap.size wq wa) := by rw [← hwa]; exact BW.out.alloc BW.out.size _
            rw [hwa, hpb]
            clear hwa hpb
            refine hK.out _ _ (HK.out _ BW.out) (fun hHeld => ?_)
            clear hK K
            (try simp only [List.set_cons_zero, List.set_cons_succ])
            obtain ⟨f0, f1, f2, f3, f4, f5, f6, f7, f8, f9, f10, f11, f12, ff⟩ := RBN.out
            have fz := RBN.out.lt
            refine wpAnyH_ready (rs := [14]) (by kernel_rfl) (by simp) ?_
            refine AllReadyH.cons rfl (fun K hK => ?_) AllReadyH.nil
            go_simp
            clear hHeld
            refine hK.out _ _ (HK.out _ (below_set13 BW.out (by omega) _ _ _ _ _ _ _ _ _ _ _ _ _)) (fun hHeld => ?_)
            clear hK K hHeld
            (try simp only [List.set_cons_zero, List.set_cons_succ])
            refine wpAnyH_done (by kernel_rfl) ?_ _
            go_wp2_with fail
            go_meet
            exact ⟨pb, rfl, hpq, below_set13 BW.out (by omega) _ _ _ _ _ _ _ _ _ _ _ _ _, hbx_set13 RBN.out op cmp ⟨xlk, xli, ⟨xlvk, xlvn, xlvs⟩⟩ ⟨xrk, xri, ⟨xrvk, xrvn, xrvs⟩⟩ (.slice none 0 0)⟩
        · go_simp
          clear hHeld
          skip
          obtain ⟨pb, hpb⟩ : ∃ pb, wcL.heap.size = pb := ⟨_, rfl⟩
          obtain ⟨wa, hwa⟩ : ∃ wa, wcL.alloc (.cells #[.int .i64 0, .int .i64 0, .int .i64 0, .int .i64 0, .int .i64 0, .int .i64 0, .string ⟨#[]⟩, .int .i64 0, .int .i64 0, .int .i64 0, .int .i64 0, .string ⟨#[]⟩, .slice none 0 0] 29) = wa := ⟨_, rfl⟩
          have RBN : Hid (RBx wa pb) := by rw [← hwa, ← hpb]; exact rbx_new _
          have hpq : w.heap.size + 2 ≤ pb := by have := BW.out.size; omega
          replace BW : Hid (Below wq.heap.size wq wa) := by rw [← hwa]; exact BW.out.alloc BW.out.size _
          rw [hwa, hpb]
          clear hwa hpb
          refine hK.out _ _ (HK.out _ BW.out) (fun hHeld => ?_)
          clear hK K
          (try simp only [List.set_cons_zero, List.set_cons_succ])
          refine wpAnyH_ready (rs := [11]) (by kernel_rfl) (by simp) ?_
          refine (AllReadyH.cons rfl (fun K hK => ?_) AllReadyH.nil)
          · go_simp
            go_at_call 46
            refine (HR1.out _ BW.out).mono ?_
            rintro e wcR ⟨rfl, hg⟩
            clear hHeld
            replace BW := Lib.hid (below_go BW.out hg)
            replace RBN := Lib.hid (RBN.out.go hg)
            clear hg
            refine hK.out _ _ (HK.out _ BW.out) (fun hHeld => ?_)
            clear hK K
            (try simp only [List.set_cons_zero, List.set_cons_succ])
            refine wpAnyH_takeD (i := 12) (d := 19) (v := ?_) rfl rfl (by kernel_rfl) (by kernel_rfl) (by kernel_rfl) (fun _ _ _ h => h) (Or.inl ⟨by rfl, ?_⟩) (by assumption) ?_; rotate_left
            · intro W hSw; (try dsimp only at hSw); go_simp; (try with_reducible rfl)
            (try simp only [List.set_cons_zero, List.set_cons_succ])
            obtain ⟨f0, f1, f2, f3, f4, f5, f6, f7, f8, f9, f10, f11, f12, ff⟩ := RBN.out
            have fz := RBN.out.lt
            refine wpAnyH_ready (rs := [14]) (by kernel_rfl) (by simp) ?_
            refine AllReadyH.cons rfl (fun K hK => ?_) AllReadyH.nil
            go_simp
            clear hHeld
            refine hK.out _ _ (HK.out _ (below_set13 BW.out (by omega) _ _ _ _ _ _ _ _ _ _ _ _ _)) (fun hHeld => ?_)
            clear hK K hHeld
            (try simp only [List.set_cons_zero, List.set_cons_succ])
            refine wpAnyH_done (by kernel_rfl) ?_ _
            go_wp2_with fail
            go_meet
            exact ⟨pb, rfl, hpq, below_set13 BW.out (by omega) _ _ _ _ _ _ _ _ _ _ _ _ _, hbx_set13 RBN.out op cmp ⟨xlk, xli, ⟨xlvk, xlvn, xlvs⟩⟩ ⟨xrk, xri, ⟨xrvk, xrvn, xrvs⟩⟩ (.slice none 0 0)⟩
      · go_simp
        clear hHeld
        skip
        obtain ⟨pb, hpb⟩ : ∃ pb, wd.heap.size = pb := ⟨_, rfl⟩
        obtain ⟨wa, hwa⟩ : ∃ wa, wd.alloc (.cells #[.int .i64 0, .int .i64 0, .int .i64 0, .int .i64 0, .int .i64 0, .int .i64 0, .string ⟨#[]⟩, .int .i64 0, .int .i64 0, .int .i64 0, .int .i64 0, .string ⟨#[]⟩, .slice none 0 0] 29) = wa := ⟨_, rfl⟩
        have RBN : Hid (RBx wa pb) := by rw [← hwa, ← hpb]; exact rbx_new _
        have hpq : w.heap.size + 2 ≤ pb := by have := BW.out.size; omega
        replace BW : Hid (Below wq.heap.size wq wa) := by rw [← hwa]; exact BW.out.alloc BW.out.size _
        rw [hwa, hpb]
        clear hwa hpb
        refine hK.out _ _ (HK.out _ BW.out) (fun hHeld => ?_)
        clear hK K
        (try simp only [List.set_cons_zero, List.set_cons_succ])
        refine wpAnyH_ready (rs := [7]) (by kernel_rfl) (by simp) ?_
        refine (AllReadyH.cons rfl (fun K hK => ?_) AllReadyH.nil)
        · go_simp
          go_at_call 46
          refine (HL1.out _ BW.out).mono ?_
          rintro e wcL ⟨rfl, hg⟩
          clear hHeld
          replace BW := Lib.hid (below_go BW.out hg)
          replace RBN := Lib.hid (RBN.out.go hg)
          clear hg
          refine hK.out _ _ (HK.out _ BW.out) (fun hHeld => ?_)
          clear hK K
          (try simp only [List.set_cons_zero, List.set_cons_succ])
          refine wpAnyH_ready (rs := [11]) (by kernel_rfl) (by simp) ?_
          refine (AllReadyH.cons rfl (fun K hK => ?_) AllReadyH.nil)
          · go_simp
            go_at_call 46
            refine (HR1.out _ BW.out).mono ?_
            rintro e wcR ⟨rfl, hg⟩
            clear hHeld
            replace BW := Lib.hid (below_go BW.out hg)
            replace RBN := Lib.hid (RBN.out.go hg)
            clear hg
            refine hK.out _ _ (HK.out _ BW.out) (fun hHeld => ?_)
            clear hK K
            (try simp only [List.set_cons_zero, List.set_cons_succ])
            refine wpAnyH_takeD (i := 12) (d := 19) (v := ?_) rfl rfl (by kernel_rfl) (by kernel_rfl) (by kernel_rfl) (fun _ _ _ h => h) (Or.inl ⟨by rfl, ?_⟩) (by assumption) ?_; rotate_left
            · intro W hSw; (try dsimp only at hSw); go_simp; (try with_reducible rfl)
            (try simp only [List.set_cons_zero, List.set_cons_succ])
            obtain ⟨f0, f1, f2, f3, f4, f5, f6, f7, f8, f9, f10, f11, f12, ff⟩ := RBN.out
            have fz := RBN.out.lt
            refine wpAnyH_ready (rs := [14]) (by kernel_rfl) (by simp) ?_
            refine AllReadyH.cons rfl (fun K hK => ?_) AllReadyH.nil
            go_simp
            clear hHeld
            refine hK.out _ _ (HK.out _ (below_set13 BW.out (by omega) _ _ _ _ _ _ _ _ _ _ _ _ _)) (fun hHeld => ?_)
            clear hK K hHeld
            (try simp only [List.set_cons_zero, List.set_cons_succ])
            refine wpAnyH_done (by kernel_rfl) ?_ _
            go_wp2_with fail
            go_meet
            exact ⟨pb, rfl, hpq, below_set13 BW.out (by omega) _ _ _ _ _ _ _ _ _ _ _ _ _, hbx_set13 RBN.out op cmp ⟨xlk, xli, ⟨xlvk, xlvn, xlvs⟩⟩ ⟨xrk, xri, ⟨xrvk, xrvn, xrvs⟩⟩ (.slice none 0 0)⟩
    case rest =>
      obtain ⟨pb, rfl, hpq, HX⟩ := hcut
      obtain ⟨w1, hw1⟩ : ∃ w1, wc = w1 := ⟨_, rfl⟩
      rw [hw1] at HX ⊢
      clear hw1
      have c12 := HK12.out w1 HX.out.1
      have HBQ : Hid (Below wq.heap.size wq w1) := HX.out.1
      have BI0 : Hid (BInv pb op cmp ⟨xlk, xli, ⟨xlvk, xlvn, xlvs⟩⟩ ⟨xrk, xri, ⟨xrvk, xrvn, xrvs⟩⟩ (.slice none 0 0) [] w1) := BInv.new HX.out.2
      have hs1 : w.heap.size + 2 ≤ w1.heap.size := by have := HX.out.1.size; omega
      have zs : w.heap.size < w1.heap.size := by omega
      have hpl : pb < w1.heap.size := HX.out.2.lt
      have HS0 : Hid (∀ W, Below pb w1 W → W.cell? ⟨w.heap.size, 12, none⟩ = some (.slice a n c)) := fun W hb => (hb.cell (p := ⟨w.heap.size, 12, none⟩) (show w.heap.size < _ by omega)).trans c12
      have RB1 : Hid (∀ W, Below pb w1 W → RBx W (w.heap.size + 1)) := fun W hb => (RB0.out.go HBQ.out).same (hb.block _ (by omega))
      have HBW0 : Hid (Below w.heap.size w w1) := HB0.out.trans (HBQ.out.mono (by omega))
      have hinfo : (Try.prog.info? 29).map (fun i => (i.zero, i.size, i.bytes)) = some (some (.agg #[.int .i64 0, .int .i64 0, .int .i64 0, .int .i64 0, .int .i64 0, .int .i64 0, .string ⟨#[]⟩, .int .i64 0, .int .i64 0, .int .i64 0, .int .i64 0, .string ⟨#[]⟩, .slice none 0 0]), 13, 136) := by kernel_rfl
      obtain ⟨i0, hi, hz0, hz1, hz2⟩ := info_parts hinfo
      have HI0 := Lib.hid hi
      have HZ0 := Lib.hid hz0
      have HZ1 := Lib.hid hz1
      have HZ2 := Lib.hid hz2
      clear hi hz0 hz1 hz2 hinfo HX HK HK12 HL1 HR1 RB0 HB0 HBQ
      go_wp2_with fail
      go_loopw [23] (fun i wr => ∃ (k : Nat) (v : Value) (L : List TE), k ≤ n ∧ i = .int .i64 k ∧ Hid (L.map TE.p = bndL Q (ps.take k)) ∧ Hid (BInv pb op cmp ⟨xlk, xli, ⟨xlvk, xlvn, xlvs⟩⟩ ⟨xrk, xri, ⟨xrvk, xrvn, xrvs⟩⟩ v L wr) ∧ Hid (Below pb w1 wr)) (fun i _ => n - (intOf i).toNat)
      case atStart => exact ⟨0, _, [], by omega, rfl, (show _ = _ by simp [bndL]), BI0.out, Below.refl _ _⟩
      case round =>
        obtain ⟨k, v, L, hk, rfl, HLM, HI, HBW⟩ := hrel
        clear BI0 c12
        obtain ⟨va, vc, hv5⟩ := own_slice HI.out.own
        subst hv5
        have HLK : Hid (L.length = k) := by show _ = _; have := congrArg List.length HLM.out; rw [List.length_map, bndL_length, List.length_take, HN.out] at this; omega
        have hpr : pb < wr.heap.size := HI.out.box.lt
        have HBR : Hid (Below w.heap.size w wr) := HBW0.out.trans (HBW.out.mono (by omega))
        have hsr : w.heap.size + 2 ≤ wr.heap.size := by omega
        by_cases hlt : k < n
        · have hlt' : (k : Int) < n := by omega
          have hkn : k < ps.length := by rw [HN.out]; exact hlt
          have c12 := HS0.out wr HBW.out
          obtain ⟨b, o, a1, c1, rfl, -, hb, r0, r1, r2, r3, r4, r5, r6, r7, r8, r9, r10, r11, r12, hps0⟩ := HP.out.get hkn
          have p0 := (HBR.out.cell (p := ⟨b, o + k * 13, none⟩) hb).trans r0
          have p1 := (HBR.out.cell (p := ⟨b, o + k * 13 + 1, none⟩) hb).trans r1
          have p2 := (HBR.out.cell (p := ⟨b, o + k * 13 + 2, none⟩) hb).trans r2
          have p3 := (HBR.out.cell (p := ⟨b, o + k * 13 + 3, none⟩) hb).trans r3
          have p4 := (HBR.out.cell (p := ⟨b, o + k * 13 + 4, none⟩) hb).trans r4
          have p5 := (HBR.out.cell (p := ⟨b, o + k * 13 + 5, none⟩) hb).trans r5
          have p6 := (HBR.out.cell (p := ⟨b, o + k * 13 + 6, none⟩) hb).trans r6
          have p7 := (HBR.out.cell (p := ⟨b, o + k * 13 + 7, none⟩) hb).trans r7
          have p8 := (HBR.out.cell (p := ⟨b, o + k * 13 + 8, none⟩) hb).trans r8
          have p9 := (HBR.out.cell (p := ⟨b, o + k * 13 + 9, none⟩) hb).trans r9
          have p10 := (HBR.out.cell (p := ⟨b, o + k * 13 + 10, none⟩) hb).trans r10
          have p11 := (HBR.out.cell (p := ⟨b, o + k * 13 + 11, none⟩) hb).trans r11
          have p12 := (HBR.out.cell (p := ⟨b, o + k * 13 + 12, none⟩) hb).trans r12
          have hps := hps0.below HBR.out
          clear hps0 r0 r1 r2 r3 r4 r5 r6 r7 r8 r9 r10 r11 r12
          obtain ⟨⟨zo, zc, ⟨zlk, zli, ⟨zlvk, zlvn, zlvs⟩⟩, ⟨zrk, zri, ⟨zrvk, zrvn, zrvs⟩⟩, zs⟩, hz⟩ : ∃ z, bndP Q ps[k] = z := ⟨_, rfl⟩
          have HH : Hid (∀ W, Below wr.heap.size wr W → Calls Try.prog 21 #[.agg #[.int .i64 ps[k].op, .int .i64 ps[k].cmp, .int .i64 ps[k].l.k, .int .i64 ps[k].l.i, .int .i64 ps[k].l.v.k, .int .i64 ps[k].l.v.n, .string ps[k].l.v.s, .int .i64 ps[k].r.k, .int .i64 ps[k].r.i, .int .i64 ps[k].r.v.k, .int .i64 ps[k].r.v.n, .string ps[k].r.v.s, .slice a1 ps[k].args.length c1], qv] W fun e w' => ∃ ya yc, e = .returned (.agg #[.int .i64 zo, .int .i64 zc, .int .i64 zlk, .int .i64 zli, .int .i64 zlvk, .int .i64 zlvn, .string zlvs, .int .i64 zrk, .int .i64 zri, .int .i64 zrvk, .int .i64 zrvn, .string zrvs, .slice ya zs.length yc]) ∧ PdS (fun b => W.heap.size < b) w' zs ya yc ∧ Below W.heap.size W w') := fun W hb => by
            have h := HIH.out k hkn _ qv W ⟨a1, c1, rfl, hps.below hb⟩ ((HQV.out.blw HBR.out).blw hb) (widL_get hkn HWL.out)
            unfold BindPost at h
            rw [hz] at h
            exact h
          have HNEXT : Hid (∀ ya yc, (L ++ ([⟨.mk zo zc ⟨zlk, zli, ⟨zlvk, zlvn, zlvs⟩⟩ ⟨zrk, zri, ⟨zrvk, zrvn, zrvs⟩⟩ zs, ya, yc⟩] : List TE)).map TE.p = bndL Q (ps.take (k + 1))) := fun ya yc => by rw [bndL_take Q ps k hkn, hz, List.map_append, HLM.out]; rfl
          clear hps hz
          generalize ps[k].op = x_op at *
          generalize ps[k].cmp = x_cmp at *
          generalize ps[k].l.k = x_lk at *
          generalize ps[k].l.i = x_li at *
          generalize ps[k].l.v.k = x_lvk at *
          generalize ps[k].l.v.n = x_lvn at *
          generalize ps[k].l.v.s = x_lvs at *
          generalize ps[k].r.k = x_rk at *
          generalize ps[k].r.i = x_ri at *
          generalize ps[k].r.v.k = x_rvk at *
          generalize ps[k].r.v.n = x_rvn at *
          generalize ps[k].r.v.s = x_rvs at *
          generalize ps[k].args.length = xn at *
          have hLk : L.length ≤ n := by have := HLK.out; omega
          have A1 : Hid (L.length + 1 ≤ maxLen) := by show _ ≤ _; have := HLK.out; unfold maxLen; omega
          have A2 : Hid ((L.length + 1) * 136 ≤ 140737488355328) := by show _ ≤ _; have := HLK.out; omega
          go_wp2_with fail
          obtain ⟨wx, hwx⟩ : ∃ wx, wr = wx := ⟨_, rfl⟩
          have HBX : Hid (Below wr.heap.size wr wx) := by rw [← hwx]; exact Below.refl _ _
          have hxs : wr.heap.size ≤ wx.heap.size := by rw [← hwx]; exact Nat.le_refl _
          rw [hwx] at c12 p0 p1 p2 p3 p4 p5 p6 p7 p8 p9 p10 p11 p12
          skip
          have HS : Hid (∀ W : World, (∀ j : Nat, j < wx.heap.size → j ≠ pb → (Value.slice va L.length vc).ownBlock ≠ some j → W.heap[j]? = wx.heap[j]?) → W.cell? ⟨w.heap.size, 12, none⟩ = some (.slice (some ⟨b, o, none⟩) n c) ∧ W.cell? ⟨b, o + k * 13, none⟩ = some (.int .i64 x_op) ∧ W.cell? ⟨b, o + k * 13 + 1, none⟩ = some (.int .i64 x_cmp) ∧ W.cell? ⟨b, o + k * 13 + 2, none⟩ = some (.int .i64 x_lk) ∧ W.cell? ⟨b, o + k * 13 + 3, none⟩ = some (.int .i64 x_li) ∧ W.cell? ⟨b, o + k * 13 + 4, none⟩ = some (.int .i64 x_lvk) ∧ W.cell? ⟨b, o + k * 13 + 5, none⟩ = some (.int .i64 x_lvn) ∧ W.cell? ⟨b, o + k * 13 + 6, none⟩ = some (.string x_lvs) ∧ W.cell? ⟨b, o + k * 13 + 7, none⟩ = some (.int .i64 x_rk) ∧ W.cell? ⟨b, o + k * 13 + 8, none⟩ = some (.int .i64 x_ri) ∧ W.cell? ⟨b, o + k * 13 + 9, none⟩ = some (.int .i64 x_rvk) ∧ W.cell? ⟨b, o + k * 13 + 10, none⟩ = some (.int .i64 x_rvn) ∧ W.cell? ⟨b, o + k * 13 + 11, none⟩ = some (.string x_rvs) ∧ W.cell? ⟨b, o + k * 13 + 12, none⟩ = some (.slice a1 xn c1)) := fun W hk => ⟨(World.cell?_of_block (w := wx) (a := ⟨w.heap.size, 12, none⟩) (hk w.heap.size (by omega) (by omega) (fun e => by have := (HI.out.own.lt _ e).1; omega))).trans c12, (World.cell?_of_block (w := wx) (a := ⟨b, o + k * 13, none⟩) (hk b (by omega) (by omega) (fun e => by have := (HI.out.own.lt _ e).1; omega))).trans p0, (World.cell?_of_block (w := wx) (a := ⟨b, o + k * 13 + 1, none⟩) (hk b (by omega) (by omega) (fun e => by have := (HI.out.own.lt _ e).1; omega))).trans p1, (World.cell?_of_block (w := wx) (a := ⟨b, o + k * 13 + 2, none⟩) (hk b (by omega) (by omega) (fun e => by have := (HI.out.own.lt _ e).1; omega))).trans p2, (World.cell?_of_block (w := wx) (a := ⟨b, o + k * 13 + 3, none⟩) (hk b (by omega) (by omega) (fun e => by have := (HI.out.own.lt _ e).1; omega))).trans p3, (World.cell?_of_block (w := wx) (a := ⟨b, o + k * 13 + 4, none⟩) (hk b (by omega) (by omega) (fun e => by have := (HI.out.own.lt _ e).1; omega))).trans p4, (World.cell?_of_block (w := wx) (a := ⟨b, o + k * 13 + 5, none⟩) (hk b (by omega) (by omega) (fun e => by have := (HI.out.own.lt _ e).1; omega))).trans p5, (World.cell?_of_block (w := wx) (a := ⟨b, o + k * 13 + 6, none⟩) (hk b (by omega) (by omega) (fun e => by have := (HI.out.own.lt _ e).1; omega))).trans p6, (World.cell?_of_block (w := wx) (a := ⟨b, o + k * 13 + 7, none⟩) (hk b (by omega) (by omega) (fun e => by have := (HI.out.own.lt _ e).1; omega))).trans p7, (World.cell?_of_block (w := wx) (a := ⟨b, o + k * 13 + 8, none⟩) (hk b (by omega) (by omega) (fun e => by have := (HI.out.own.lt _ e).1; omega))).trans p8, (World.cell?_of_block (w := wx) (a := ⟨b, o + k * 13 + 9, none⟩) (hk b (by omega) (by omega) (fun e => by have := (HI.out.own.lt _ e).1; omega))).trans p9, (World.cell?_of_block (w := wx) (a := ⟨b, o + k * 13 + 10, none⟩) (hk b (by omega) (by omega) (fun e => by have := (HI.out.own.lt _ e).1; omega))).trans p10, (World.cell?_of_block (w := wx) (a := ⟨b, o + k * 13 + 11, none⟩) (hk b (by omega) (by omega) (fun e => by have := (HI.out.own.lt _ e).1; omega))).trans p11, (World.cell?_of_block (w := wx) (a := ⟨b, o + k * 13 + 12, none⟩) (hk b (by omega) (by omega) (fun e => by have := (HI.out.own.lt _ e).1; omega))).trans p12⟩
          clear c12 p0 p1 p2 p3 p4 p5 p6 p7 p8 p9 p10 p11 p12
          refine wp_region_held_drew (S := fun W => W.cell? ⟨w.heap.size, 12, none⟩ = some (.slice (some ⟨b, o, none⟩) n c) ∧ W.cell? ⟨b, o + k * 13, none⟩ = some (.int .i64 x_op) ∧ W.cell? ⟨b, o + k * 13 + 1, none⟩ = some (.int .i64 x_cmp) ∧ W.cell? ⟨b, o + k * 13 + 2, none⟩ = some (.int .i64 x_lk) ∧ W.cell? ⟨b, o + k * 13 + 3, none⟩ = some (.int .i64 x_li) ∧ W.cell? ⟨b, o + k * 13 + 4, none⟩ = some (.int .i64 x_lvk) ∧ W.cell? ⟨b, o + k * 13 + 5, none⟩ = some (.int .i64 x_lvn) ∧ W.cell? ⟨b, o + k * 13 + 6, none⟩ = some (.string x_lvs) ∧ W.cell? ⟨b, o + k * 13 + 7, none⟩ = some (.int .i64 x_rk) ∧ W.cell? ⟨b, o + k * 13 + 8, none⟩ = some (.int .i64 x_ri) ∧ W.cell? ⟨b, o + k * 13 + 9, none⟩ = some (.int .i64 x_rvk) ∧ W.cell? ⟨b, o + k * 13 + 10, none⟩ = some (.int .i64 x_rvn) ∧ W.cell? ⟨b, o + k * 13 + 11, none⟩ = some (.string x_rvs) ∧ W.cell? ⟨b, o + k * 13 + 12, none⟩ = some (.slice a1 xn c1)) (by kernel_rfl) (HS.out _ (fun j h1 h2 h3 => by rw [← hwx]; rfl)) (fun hHeld => ?_)
          obtain ⟨wd, hwd⟩ : ∃ wd, wr.drew = wd := ⟨_, rfl⟩
          rw [hwx] at hwd
          have HBD : Hid (Below wx.heap.size wx wd) := by rw [← hwd]; exact (Below.refl _ _).drew
          have hds : wd.heap.size = wx.heap.size := by rw [← hwd]; rfl
          have KD : Hid (∀ j : Nat, wd.heap[j]? = wx.heap[j]?) := by rw [← hwd]; exact fun j => rfl
          have dd : wd.cell? ⟨pb, 12, none⟩ = some (.slice va L.length vc) := (World.cell?_of_block (w := wx) (a := ⟨pb, 12, none⟩) (KD.out pb)).trans ((HBX.out.cell (p := ⟨pb, 12, none⟩) hpr).trans HI.out.box.k12)
          have dz : pb < wd.heap.size := by omega
          have HHD := Lib.hid (HH.out wd (HBX.out.trans (HBD.out.mono (by omega))))
          rw [show wr.drew = wd from by rw [hwx]; exact hwd] at hHeld ⊢
          clear hwd HH
          refine wpAnyH_takeD (i := 0) (d := 26) (v := ?_) rfl rfl (by kernel_rfl) (by kernel_rfl) (by kernel_rfl) (fun _ _ _ h => h) (Or.inl ⟨by rfl, ?_⟩) (by assumption) ?_; rotate_left
          · intro W hSw; (try dsimp only at hSw); go_simp; (try with_reducible rfl)
          (try simp only [List.set_cons_zero, List.set_cons_succ])
          refine wpAnyH_takeD (i := 2) (d := 28) (v := ?_) rfl rfl (by kernel_rfl) (by kernel_rfl) (by kernel_rfl) (fun _ _ _ h => h) (Or.inl ⟨by rfl, ?_⟩) (by assumption) ?_; rotate_left
          · intro W hSw; (try dsimp only at hSw); go_simp; (try with_reducible rfl)
          (try simp only [List.set_cons_zero, List.set_cons_succ])
          refine wpAnyH_takeD (i := 3) (d := 29) (v := ?_) rfl rfl (by kernel_rfl) (by kernel_rfl) (by kernel_rfl) (fun _ _ _ h => h) (Or.inl ⟨by rfl, ?_⟩) (by assumption) ?_; rotate_left
          · intro W hSw; (try dsimp only at hSw); go_simp; (try with_reducible rfl)
          (try simp only [List.set_cons_zero, List.set_cons_succ])
          refine wpAnyH_takeD (i := 4) (d := 30) (v := ?_) rfl rfl (by kernel_rfl) (by kernel_rfl) (by kernel_rfl) (fun _ _ _ h => h) (Or.inl ⟨by rfl, ?_⟩) (by assumption) ?_; rotate_left
          · intro W hSw; (try dsimp only at hSw); go_simp; (try with_reducible rfl)
          (try simp only [List.set_cons_zero, List.set_cons_succ])
          refine wpAnyH_takeD (i := 5) (d := 31) (v := ?_) rfl rfl (by kernel_rfl) (by kernel_rfl) (by kernel_rfl) (fun _ _ _ h => h) (Or.inl ⟨by rfl, ?_⟩) (by assumption) ?_; rotate_left
          · intro W hSw; (try dsimp only at hSw); go_simp; (try with_reducible rfl)
          (try simp only [List.set_cons_zero, List.set_cons_succ])
          refine wpAnyH_takeD (i := 6) (d := 32) (v := ?_) rfl rfl (by kernel_rfl) (by kernel_rfl) (by kernel_rfl) (fun _ _ _ h => h) (Or.inl ⟨by rfl, ?_⟩) (by assumption) ?_; rotate_left
          · intro W hSw; (try dsimp only at hSw); go_simp; (try with_reducible rfl)
          (try simp only [List.set_cons_zero, List.set_cons_succ])
          refine wpAnyH_takeD (i := 7) (d := 33) (v := ?_) rfl rfl (by kernel_rfl) (by kernel_rfl) (by kernel_rfl) (fun _ _ _ h => h) (Or.inl ⟨by rfl, ?_⟩) (by assumption) ?_; rotate_left
          · intro W hSw; (try dsimp only at hSw); go_simp; (try with_reducible rfl)
          (try simp only [List.set_cons_zero, List.set_cons_succ])
          refine wpAnyH_ready (rs := [1, 8]) (by kernel_rfl) (by simp) ?_
          refine (AllReadyH.cons rfl (fun K hK => ?_) (AllReadyH.cons rfl (fun K hK => ?_) AllReadyH.nil))
          · go_simp
            clear hHeld
            refine hK.out _ _ (HS.out _ (fun j h1 h2 h3 => KD.out j)) (fun hHeld => ?_)
            clear hK K
            (try simp only [List.set_cons_zero, List.set_cons_succ])
            refine wpAnyH_ready (rs := [8]) (by kernel_rfl) (by simp) ?_
            refine (AllReadyH.cons rfl (fun K hK => ?_) AllReadyH.nil)
            · go_simp
              (with_reducible refine HHD.out.mono ?_)
              rintro e w2 ⟨ya, yc, rfl, hps2, hb2⟩
              have HB2 : Hid (Below wx.heap.size wx w2) := HBD.out.trans (hb2.mono (by omega))
              have BI2 : Hid (BInv pb op cmp ⟨xlk, xli, ⟨xlvk, xlvn, xlvs⟩⟩ ⟨xrk, xri, ⟨xrvk, xrvn, xrvs⟩⟩ (.slice va L.length vc) L w2) := HI.out.go (HBX.out.trans (HB2.out.mono (by omega)))
              have z2 : pb < w2.heap.size := BI2.out.box.lt
              have hs2 : wx.heap.size ≤ w2.heap.size := HB2.out.size
              have JAP : Hid (∀ (O : Obj) (v' : Value) (W2 : World), W2.ownsRow (pb + 1) 29 13 v' (L.length + 1) (teCells L ++ [.int .i64 zo, .int .i64 zc, .int .i64 zlk, .int .i64 zli, .int .i64 zlvk, .int .i64 zlvn, .string zlvs, .int .i64 zrk, .int .i64 zri, .int .i64 zrvk, .int .i64 zrvn, .string zrvs, .slice ya zs.length yc]) → (w2.alloc O).grownBy W2 (Value.slice va L.length vc).ownBlock → (v'.ownBlock = (Value.slice va L.length vc).ownBlock ∨ v'.ownBlock = some (w2.alloc O).heap.size) → BInv pb op cmp ⟨xlk, xli, ⟨xlvk, xlvn, xlvs⟩⟩ ⟨xrk, xri, ⟨xrvk, xrvn, xrvs⟩⟩ v' (L ++ [⟨.mk zo zc ⟨zlk, zli, ⟨zlvk, zlvn, zlvs⟩⟩ ⟨zrk, zri, ⟨zrvk, zrvn, zrvs⟩⟩ zs, ya, yc⟩]) (W2.setCell ⟨pb, 12, none⟩ v') ∧ Below pb w2 (W2.setCell ⟨pb, 12, none⟩ v')) := fun O v' W2 h1 h2 h3 => BI2.out.app ⟨.mk zo zc ⟨zlk, zli, ⟨zlvk, zlvn, zlvs⟩⟩ ⟨zrk, zri, ⟨zrvk, zrvn, zrvs⟩⟩ zs, ya, yc⟩ (lo := wd.heap.size) (fun kk e => by have := (HI.out.own.lt kk e).2; omega) (by omega) hps2 h1 h2 h3
              have A3 : Hid (∀ O : Obj, pb + 1 ≤ (w2.alloc O).heap.size) := fun O => by simp only [World.size_alloc]; omega
              have A4 : Hid (∀ t (j : Nat) (u : Value), ([.int .i64 zo, .int .i64 zc, .int .i64 zlk, .int .i64 zli, .int .i64 zlvk, .int .i64 zlvn, .string zlvs, .int .i64 zrk, .int .i64 zri, .int .i64 zrvk, .int .i64 zrvn, .string zrvs, .slice ya zs.length yc] : List Value)[j]? = some u → (w2.alloc (.cells #[.int .i64 zo, .int .i64 zc, .int .i64 zlk, .int .i64 zli, .int .i64 zlvk, .int .i64 zlvn, .string zlvs, .int .i64 zrk, .int .i64 zri, .int .i64 zrvk, .int .i64 zrvn, .string zrvs, .slice ya zs.length yc] t)).cell? ((⟨w2.heap.size, 0, none⟩ : Addr).add j) = some u) := fun t => te_new w2 ⟨.mk zo zc ⟨zlk, zli, ⟨zlvk, zlvn, zlvs⟩⟩ ⟨zrk, zri, ⟨zrvk, zrvn, zrvs⟩⟩ zs, ya, yc⟩ t
              have A5 : Hid (∀ u ∈ ([.int .i64 zo, .int .i64 zc, .int .i64 zlk, .int .i64 zli, .int .i64 zlvk, .int .i64 zlvn, .string zlvs, .int .i64 zrk, .int .i64 zri, .int .i64 zrvk, .int .i64 zrvn, .string zrvs, .slice ya zs.length yc] : List Value), u.oneCell' = true) := te_one ⟨.mk zo zc ⟨zlk, zli, ⟨zlvk, zlvn, zlvs⟩⟩ ⟨zrk, zri, ⟨zrvk, zrvn, zrvs⟩⟩ zs, ya, yc⟩
              clear hps2 hb2
              clear hHeld
              refine hK.out _ _ (HS.out _ (fun j h1 h2 h3 => HB2.out.block j h1)) (fun hHeld => ?_)
              clear hK K
              (try simp only [List.set_cons_zero, List.set_cons_succ])
              refine wpAnyH_ready (rs := [9]) (by kernel_rfl) (by simp) ?_
              refine (AllReadyH.cons rfl (fun K hK => ?_) AllReadyH.nil)
              · go_simp
                clear hHeld
                refine hK.out _ _ (HS.out _ (fun j h1 h2 h3 => (Below.heap_alloc _ _ j (by omega)).trans (HB2.out.block j h1))) (fun hHeld => ?_)
                clear hK K
                (try simp only [List.set_cons_zero, List.set_cons_succ])
                refine wpAnyH_ready (rs := [10]) (by kernel_rfl) (by simp) ?_
                refine AllReadyH.cons rfl (fun K hK => ?_) AllReadyH.nil
                refine step_append_own rfl _ _ 27 rfl (pb + 1) 29 i0 (.agg #[.int .i64 0, .int .i64 0, .int .i64 0, .int .i64 0, .int .i64 0, .int .i64 0, .string ⟨#[]⟩, .int .i64 0, .int .i64 0, .int .i64 0, .int .i64 0, .string ⟨#[]⟩, .slice none 0 0]) 13 136 Try.underlying27 HI0.out HZ0.out HZ1.out HZ2.out rfl (by decide) (.slice va L.length vc) L.length (teCells L) rfl (BI2.out.own.alloc _) ⟨w2.heap.size, 0, none⟩ 1 1 [.int .i64 zo, .int .i64 zc, .int .i64 zlk, .int .i64 zli, .int .i64 zlvk, .int .i64 zlvn, .string zlvs, .int .i64 zrk, .int .i64 zri, .int .i64 zrvk, .int .i64 zrvn, .string zrvs, .slice ya zs.length yc] rfl rfl (A4.out _) A5.out A1.out A2.out (A3.out _) ?_
                intro v4 w4 hown4 hgr4 hat4
                obtain ⟨va4, vc4, rfl⟩ := own_slice hown4
                have HJ := Lib.hid (JAP.out _ _ w4 hown4 hgr4 hat4)
                have hne4 : some pb ≠ (Value.slice va L.length vc).ownBlock := fun e => by have := (BI2.out.own.lt pb e.symm).1; omega
                have e4 : w4.heap[pb]? = w2.heap[pb]? := (hgr4.block pb (by simp only [World.size_alloc]; omega) hne4).trans (Below.heap_alloc _ _ pb z2)
                have d12 : w4.cell? ⟨pb, 12, none⟩ = some (.slice va L.length vc) := (World.cell?_of_block (w := w2) (a := ⟨pb, 12, none⟩) e4).trans BI2.out.box.k12
                have f4 : w4.frozen? ⟨pb, 12, none⟩ = false := (World.frozen?_of_block (w := w2) (a := ⟨pb, 12, none⟩) e4).trans (BI2.out.box.kf 12)
                have z4 : pb < w4.heap.size := by have := hgr4.size; simp only [World.size_alloc] at this; omega
                have K4 : Hid (∀ j : Nat, j < wx.heap.size → j ≠ pb → (Value.slice va L.length vc).ownBlock ≠ some j → w4.heap[j]? = wx.heap[j]?) := fun j h1 h2 h3 => (hgr4.block j (by simp only [World.size_alloc]; omega) (fun e => h3 e.symm)).trans ((Below.heap_alloc _ _ j (by omega)).trans (HB2.out.block j h1))
                clear hown4 hgr4 hat4 hne4 e4 JAP A3 A4 A5
                clear hHeld
                refine hK.out _ _ (HS.out _ K4.out) (fun hHeld => ?_)
                clear hK K
                (try simp only [List.set_cons_zero, List.set_cons_succ])
                refine wpAnyH_takeD (i := 11) (d := 37) (v := ?_) rfl rfl (by kernel_rfl) (by kernel_rfl) (by kernel_rfl) (fun _ _ _ h => h) (Or.inl ⟨by rfl, ?_⟩) (by assumption) ?_; rotate_left
                · intro W hSw; (try dsimp only at hSw); go_simp; (try with_reducible rfl)
                (try simp only [List.set_cons_zero, List.set_cons_succ])
                refine wpAnyH_ready (rs := [12]) (by kernel_rfl) (by simp) ?_
                refine AllReadyH.cons rfl (fun K hK => ?_) AllReadyH.nil
                go_simp
                clear hHeld
                refine hK.out _ _ (HS.out _ (fun j h1 h2 h3 => (Below.heap_setCell _ _ _ _ h2).trans (K4.out j h1 h2 h3))) (fun hHeld => ?_)
                clear hK K
                (try simp only [List.set_cons_zero, List.set_cons_succ])
                clear hHeld
                refine wpAnyH_done (by kernel_rfl) ?_ _
                clear d12 f4 z4 HS
                go_wp2_with fail
                go_roundw
                case rel => exact ⟨k + 1, _, L ++ [⟨.mk zo zc ⟨zlk, zli, ⟨zlvk, zlvn, zlvs⟩⟩ ⟨zrk, zri, ⟨zrvk, zrvn, zrvs⟩⟩ zs, ya, yc⟩], by omega, by go_num, Lib.hid (HNEXT.out ya yc), Lib.hid HJ.out.1, Lib.hid (HBW.out.trans (((HBX.out.trans (HB2.out.mono (by omega))).mono (by omega)).trans HJ.out.2))⟩
                case measure => simp [intOf]; omega
          · go_simp
            (with_reducible refine HHD.out.mono ?_)
            rintro e w2 ⟨ya, yc, rfl, hps2, hb2⟩
            have HB2 : Hid (Below wx.heap.size wx w2) := HBD.out.trans (hb2.mono (by omega))
            have BI2 : Hid (BInv pb op cmp ⟨xlk, xli, ⟨xlvk, xlvn, xlvs⟩⟩ ⟨xrk, xri, ⟨xrvk, xrvn, xrvs⟩⟩ (.slice va L.length vc) L w2) := HI.out.go (HBX.out.trans (HB2.out.mono (by omega)))
            have z2 : pb < w2.heap.size := BI2.out.box.lt
            have hs2 : wx.heap.size ≤ w2.heap.size := HB2.out.size
            have JAP : Hid (∀ (O : Obj) (v' : Value) (W2 : World), W2.ownsRow (pb + 1) 29 13 v' (L.length + 1) (teCells L ++ [.int .i64 zo, .int .i64 zc, .int .i64 zlk, .int .i64 zli, .int .i64 zlvk, .int .i64 zlvn, .string zlvs, .int .i64 zrk, .int .i64 zri, .int .i64 zrvk, .int .i64 zrvn, .string zrvs, .slice ya zs.length yc]) → (w2.alloc O).grownBy W2 (Value.slice va L.length vc).ownBlock → (v'.ownBlock = (Value.slice va L.length vc).ownBlock ∨ v'.ownBlock = some (w2.alloc O).heap.size) → BInv pb op cmp ⟨xlk, xli, ⟨xlvk, xlvn, xlvs⟩⟩ ⟨xrk, xri, ⟨xrvk, xrvn, xrvs⟩⟩ v' (L ++ [⟨.mk zo zc ⟨zlk, zli, ⟨zlvk, zlvn, zlvs⟩⟩ ⟨zrk, zri, ⟨zrvk, zrvn, zrvs⟩⟩ zs, ya, yc⟩]) (W2.setCell ⟨pb, 12, none⟩ v') ∧ Below pb w2 (W2.setCell ⟨pb, 12, none⟩ v')) := fun O v' W2 h1 h2 h3 => BI2.out.app ⟨.mk zo zc ⟨zlk, zli, ⟨zlvk, zlvn, zlvs⟩⟩ ⟨zrk, zri, ⟨zrvk, zrvn, zrvs⟩⟩ zs, ya, yc⟩ (lo := wd.heap.size) (fun kk e => by have := (HI.out.own.lt kk e).2; omega) (by omega) hps2 h1 h2 h3
            have A3 : Hid (∀ O : Obj, pb + 1 ≤ (w2.alloc O).heap.size) := fun O => by simp only [World.size_alloc]; omega
            have A4 : Hid (∀ t (j : Nat) (u : Value), ([.int .i64 zo, .int .i64 zc, .int .i64 zlk, .int .i64 zli, .int .i64 zlvk, .int .i64 zlvn, .string zlvs, .int .i64 zrk, .int .i64 zri, .int .i64 zrvk, .int .i64 zrvn, .string zrvs, .slice ya zs.length yc] : List Value)[j]? = some u → (w2.alloc (.cells #[.int .i64 zo, .int .i64 zc, .int .i64 zlk, .int .i64 zli, .int .i64 zlvk, .int .i64 zlvn, .string zlvs, .int .i64 zrk, .int .i64 zri, .int .i64 zrvk, .int .i64 zrvn, .string zrvs, .slice ya zs.length yc] t)).cell? ((⟨w2.heap.size, 0, none⟩ : Addr).add j) = some u) := fun t => te_new w2 ⟨.mk zo zc ⟨zlk, zli, ⟨zlvk, zlvn, zlvs⟩⟩ ⟨zrk, zri, ⟨zrvk, zrvn, zrvs⟩⟩ zs, ya, yc⟩ t
            have A5 : Hid (∀ u ∈ ([.int .i64 zo, .int .i64 zc, .int .i64 zlk, .int .i64 zli, .int .i64 zlvk, .int .i64 zlvn, .string zlvs, .int .i64 zrk, .int .i64 zri, .int .i64 zrvk, .int .i64 zrvn, .string zrvs, .slice ya zs.length yc] : List Value), u.oneCell' = true) := te_one ⟨.mk zo zc ⟨zlk, zli, ⟨zlvk, zlvn, zlvs⟩⟩ ⟨zrk, zri, ⟨zrvk, zrvn, zrvs⟩⟩ zs, ya, yc⟩
            clear hps2 hb2
            have dz := z2
            clear hHeld
            refine hK.out _ _ (HS.out _ (fun j h1 h2 h3 => HB2.out.block j h1)) (fun hHeld => ?_)
            clear hK K
            (try simp only [List.set_cons_zero, List.set_cons_succ])
            have d2 : w2.cell? ⟨pb, 12, none⟩ = some (.slice va L.length vc) := BI2.out.box.k12
            refine wpAnyH_ready (rs := [1, 9]) (by kernel_rfl) (by simp) ?_
            refine (AllReadyH.cons rfl (fun K hK => ?_) (AllReadyH.cons rfl (fun K hK => ?_) AllReadyH.nil))
            · go_simp
              clear hHeld
              refine hK.out _ _ (HS.out _ (fun j h1 h2 h3 => HB2.out.block j h1)) (fun hHeld => ?_)
              clear hK K
              (try simp only [List.set_cons_zero, List.set_cons_succ])
              refine wpAnyH_ready (rs := [9]) (by kernel_rfl) (by simp) ?_
              refine (AllReadyH.cons rfl (fun K hK => ?_) AllReadyH.nil)
              · go_simp
                clear hHeld
                refine hK.out _ _ (HS.out _ (fun j h1 h2 h3 => (Below.heap_alloc _ _ j (by omega)).trans (HB2.out.block j h1))) (fun hHeld => ?_)
                clear hK K
                (try simp only [List.set_cons_zero, List.set_cons_succ])
                refine wpAnyH_ready (rs := [10]) (by kernel_rfl) (by simp) ?_
                refine AllReadyH.cons rfl (fun K hK => ?_) AllReadyH.nil
                refine step_append_own rfl _ _ 27 rfl (pb + 1) 29 i0 (.agg #[.int .i64 0, .int .i64 0, .int .i64 0, .int .i64 0, .int .i64 0, .int .i64 0, .string ⟨#[]⟩, .int .i64 0, .int .i64 0, .int .i64 0, .int .i64 0, .string ⟨#[]⟩, .slice none 0 0]) 13 136 Try.underlying27 HI0.out HZ0.out HZ1.out HZ2.out rfl (by decide) (.slice va L.length vc) L.length (teCells L) rfl (BI2.out.own.alloc _) ⟨w2.heap.size, 0, none⟩ 1 1 [.int .i64 zo, .int .i64 zc, .int .i64 zlk, .int .i64 zli, .int .i64 zlvk, .int .i64 zlvn, .string zlvs, .int .i64 zrk, .int .i64 zri, .int .i64 zrvk, .int .i64 zrvn, .string zrvs, .slice ya zs.length yc] rfl rfl (A4.out _) A5.out A1.out A2.out (A3.out _) ?_
                intro v4 w4 hown4 hgr4 hat4
                obtain ⟨va4, vc4, rfl⟩ := own_slice hown4
                have HJ := Lib.hid (JAP.out _ _ w4 hown4 hgr4 hat4)
                have hne4 : some pb ≠ (Value.slice va L.length vc).ownBlock := fun e => by have := (BI2.out.own.lt pb e.symm).1; omega
                have e4 : w4.heap[pb]? = w2.heap[pb]? := (hgr4.block pb (by simp only [World.size_alloc]; omega) hne4).trans (Below.heap_alloc _ _ pb z2)
                have d12 : w4.cell? ⟨pb, 12, none⟩ = some (.slice va L.length vc) := (World.cell?_of_block (w := w2) (a := ⟨pb, 12, none⟩) e4).trans BI2.out.box.k12
                have f4 : w4.frozen? ⟨pb, 12, none⟩ = false := (World.frozen?_of_block (w := w2) (a := ⟨pb, 12, none⟩) e4).trans (BI2.out.box.kf 12)
                have z4 : pb < w4.heap.size := by have := hgr4.size; simp only [World.size_alloc] at this; omega
                have K4 : Hid (∀ j : Nat, j < wx.heap.size → j ≠ pb → (Value.slice va L.length vc).ownBlock ≠ some j → w4.heap[j]? = wx.heap[j]?) := fun j h1 h2 h3 => (hgr4.block j (by simp only [World.size_alloc]; omega) (fun e => h3 e.symm)).trans ((Below.heap_alloc _ _ j (by omega)).trans (HB2.out.block j h1))
                clear hown4 hgr4 hat4 hne4 e4 JAP A3 A4 A5
                clear hHeld
                refine hK.out _ _ (HS.out _ K4.out) (fun hHeld => ?_)
                clear hK K
                (try simp only [List.set_cons_zero, List.set_cons_succ])
                refine wpAnyH_takeD (i := 11) (d := 37) (v := ?_) rfl rfl (by kernel_rfl) (by kernel_rfl) (by kernel_rfl) (fun _ _ _ h => h) (Or.inl ⟨by rfl, ?_⟩) (by assumption) ?_; rotate_left
                · intro W hSw; (try dsimp only at hSw); go_simp; (try with_reducible rfl)
                (try simp only [List.set_cons_zero, List.set_cons_succ])
                refine wpAnyH_ready (rs := [12]) (by kernel_rfl) (by simp) ?_
                refine AllReadyH.cons rfl (fun K hK => ?_) AllReadyH.nil
                go_simp
                clear hHeld
                refine hK.out _ _ (HS.out _ (fun j h1 h2 h3 => (Below.heap_setCell _ _ _ _ h2).trans (K4.out j h1 h2 h3))) (fun hHeld => ?_)
                clear hK K
                (try simp only [List.set_cons_zero, List.set_cons_succ])
                clear hHeld
                refine wpAnyH_done (by kernel_rfl) ?_ _
                clear d12 f4 z4 HS
                go_wp2_with fail
                go_roundw
                case rel => exact ⟨k + 1, _, L ++ [⟨.mk zo zc ⟨zlk, zli, ⟨zlvk, zlvn, zlvs⟩⟩ ⟨zrk, zri, ⟨zrvk, zrvn, zrvs⟩⟩ zs, ya, yc⟩], by omega, by go_num, Lib.hid (HNEXT.out ya yc), Lib.hid HJ.out.1, Lib.hid (HBW.out.trans (((HBX.out.trans (HB2.out.mono (by omega))).mono (by omega)).trans HJ.out.2))⟩
                case measure => simp [intOf]; omega
            · go_simp
              clear hHeld
              refine hK.out _ _ (HS.out _ (fun j h1 h2 h3 => (Below.heap_alloc _ _ j (by omega)).trans (HB2.out.block j h1))) (fun hHeld => ?_)
              clear hK K
              (try simp only [List.set_cons_zero, List.set_cons_succ])
              refine wpAnyH_ready (rs := [1]) (by kernel_rfl) (by simp) ?_
              refine (AllReadyH.cons rfl (fun K hK => ?_) AllReadyH.nil)
              · go_simp
                clear hHeld
                refine hK.out _ _ (HS.out _ (fun j h1 h2 h3 => (Below.heap_alloc _ _ j (by omega)).trans (HB2.out.block j h1))) (fun hHeld => ?_)
                clear hK K
                (try simp only [List.set_cons_zero, List.set_cons_succ])
                refine wpAnyH_ready (rs := [10]) (by kernel_rfl) (by simp) ?_
                refine AllReadyH.cons rfl (fun K hK => ?_) AllReadyH.nil
                refine step_append_own rfl _ _ 27 rfl (pb + 1) 29 i0 (.agg #[.int .i64 0, .int .i64 0, .int .i64 0, .int .i64 0, .int .i64 0, .int .i64 0, .string ⟨#[]⟩, .int .i64 0, .int .i64 0, .int .i64 0, .int .i64 0, .string ⟨#[]⟩, .slice none 0 0]) 13 136 Try.underlying27 HI0.out HZ0.out HZ1.out HZ2.out rfl (by decide) (.slice va L.length vc) L.length (teCells L) rfl (BI2.out.own.alloc _) ⟨w2.heap.size, 0, none⟩ 1 1 [.int .i64 zo, .int .i64 zc, .int .i64 zlk, .int .i64 zli, .int .i64 zlvk, .int .i64 zlvn, .string zlvs, .int .i64 zrk, .int .i64 zri, .int .i64 zrvk, .int .i64 zrvn, .string zrvs, .slice ya zs.length yc] rfl rfl (A4.out _) A5.out A1.out A2.out (A3.out _) ?_
                intro v4 w4 hown4 hgr4 hat4
                obtain ⟨va4, vc4, rfl⟩ := own_slice hown4
                have HJ := Lib.hid (JAP.out _ _ w4 hown4 hgr4 hat4)
                have hne4 : some pb ≠ (Value.slice va L.length vc).ownBlock := fun e => by have := (BI2.out.own.lt pb e.symm).1; omega
                have e4 : w4.heap[pb]? = w2.heap[pb]? := (hgr4.block pb (by simp only [World.size_alloc]; omega) hne4).trans (Below.heap_alloc _ _ pb z2)
                have d12 : w4.cell? ⟨pb, 12, none⟩ = some (.slice va L.length vc) := (World.cell?_of_block (w := w2) (a := ⟨pb, 12, none⟩) e4).trans BI2.out.box.k12
                have f4 : w4.frozen? ⟨pb, 12, none⟩ = false := (World.frozen?_of_block (w := w2) (a := ⟨pb, 12, none⟩) e4).trans (BI2.out.box.kf 12)
                have z4 : pb < w4.heap.size := by have := hgr4.size; simp only [World.size_alloc] at this; omega
                have K4 : Hid (∀ j : Nat, j < wx.heap.size → j ≠ pb → (Value.slice va L.length vc).ownBlock ≠ some j → w4.heap[j]? = wx.heap[j]?) := fun j h1 h2 h3 => (hgr4.block j (by simp only [World.size_alloc]; omega) (fun e => h3 e.symm)).trans ((Below.heap_alloc _ _ j (by omega)).trans (HB2.out.block j h1))
                clear hown4 hgr4 hat4 hne4 e4 JAP A3 A4 A5
                clear hHeld
                refine hK.out _ _ (HS.out _ K4.out) (fun hHeld => ?_)
                clear hK K
                (try simp only [List.set_cons_zero, List.set_cons_succ])
                refine wpAnyH_takeD (i := 11) (d := 37) (v := ?_) rfl rfl (by kernel_rfl) (by kernel_rfl) (by kernel_rfl) (fun _ _ _ h => h) (Or.inl ⟨by rfl, ?_⟩) (by assumption) ?_; rotate_left
                · intro W hSw; (try dsimp only at hSw); go_simp; (try with_reducible rfl)
                (try simp only [List.set_cons_zero, List.set_cons_succ])
                refine wpAnyH_ready (rs := [12]) (by kernel_rfl) (by simp) ?_
                refine AllReadyH.cons rfl (fun K hK => ?_) AllReadyH.nil
                go_simp
                clear hHeld
                refine hK.out _ _ (HS.out _ (fun j h1 h2 h3 => (Below.heap_setCell _ _ _ _ h2).trans (K4.out j h1 h2 h3))) (fun hHeld => ?_)
                clear hK K
                (try simp only [List.set_cons_zero, List.set_cons_succ])
                clear hHeld
                refine wpAnyH_done (by kernel_rfl) ?_ _
                clear d12 f4 z4 HS
                go_wp2_with fail
                go_roundw
                case rel => exact ⟨k + 1, _, L ++ [⟨.mk zo zc ⟨zlk, zli, ⟨zlvk, zlvn, zlvs⟩⟩ ⟨zrk, zri, ⟨zrvk, zrvn, zrvs⟩⟩ zs, ya, yc⟩], by omega, by go_num, Lib.hid (HNEXT.out ya yc), Lib.hid HJ.out.1, Lib.hid (HBW.out.trans (((HBX.out.trans (HB2.out.mono (by omega))).mono (by omega)).trans HJ.out.2))⟩
                case measure => simp [intOf]; omega
        · obtain rfl : k = n := by omega
          obtain ⟨oa, oc, eo, hps⟩ := HI.out.out (by have := HLK.out; omega)
          simp only [Value.slice.injEq] at eo
          obtain ⟨rfl, -, rfl⟩ := eo
          obtain ⟨j0, j1, j2, j3, j4, j5, j6, j7, j8, j9, j10, j11, j12, jf⟩ := HI.out.box
          obtain ⟨q0, q1, q2, q3, q4, q5, q6, q7, q8, q9, q10, q11, q12, qf⟩ := RB1.out wr HBW.out
          have zr : w.heap.size + 1 < wr.heap.size := by omega
          have hLM := HLM.out
          rw [List.take_of_length_le (by rw [HN.out]; exact Nat.le_refl _)] at hLM
          rw [hLM] at hps
          have HPS := Lib.hid hps
          rw [HLK.out] at j12
          clear hps hLM
          go_wp2_with fail
          refine bodyPost_ret (v := .agg #[.int .i64 op, .int .i64 cmp, .int .i64 xlk, .int .i64 xli, .int .i64 xlvk, .int .i64 xlvn, .string xlvs, .int .i64 xrk, .int .i64 xri, .int .i64 xrvk, .int .i64 xrvn, .string xrvs, .slice va k vc]) ?_ rfl ?_
          · simp [results, Try.results21, go_sem, q0, q1, q2, q3, q4, q5, q6, q7, q8, q9, q10, q11, q12]
          · refine HPOST.out _ _ ⟨va, vc, ?_, ?_, ?_⟩
            · simp only [pdV, PT.op, PT.cmp, PT.l, PT.r, PT.args, bndL_length, HN.out]
            · exact (HPS.out.keep (by rw [set13_size]; exact Nat.le_refl _) (fun b hb _ => set13_block _ _ _ _ _ _ _ _ _ _ _ _ _ _ _ _ (by omega))).weak (fun b hb => by omega)
            · exact below_set13 HBR.out (by omega) _ _ _ _ _ _ _ _ _ _ _ _ _
end Go.Proofs.Ytffeghlepblapaa
