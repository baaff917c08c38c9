
/- predicate's small, Check. -/
import Derived.Test.YtjcbmeannhafjaaPdEvery

import Derived.Test.YtjcbmeannhafjaaPdValidN

import Derived.Laws.EntriesVeiled

namespace Go.Proofs.Ytjcbmeannhafjaa

open Go.RowKit

structure SmInv (B bx s : Nat) (w : World) : Prop where
  cell : w.cell? ⟨bx, 0, none⟩ = some (.int .i64 s)
  fz : w.frozen? ⟨bx, 0, none⟩ = false
  lt : bx < w.heap.size
  ge : B ≤ bx
  few : s ≤ 24

set_option maxHeartbeats 2000000 in
theorem pSmallC_any (B bx s : Nat) (d : Int) (p : PT) (v : Value) (w : World) (hI : SmInv B bx s w) (h : PdAt (fun b => b < B) w v p) : Calls Try.prog 87 #[v, .int .i64 d, .pointer (some ⟨bx, 0, none⟩)] w (EvPost (fS s p d) B (SmInv B bx) (fun k _ => k ≠ bx) w) := by
  obtain ⟨hc, hf, hlt, hge, hs⟩ := hI
  obtain ⟨op, cmp, lk, li, lvk, lvn, lvs, rk, ri, rvk, rvn, rvs, ps, a, c, rfl, rfl, hp⟩ := pd_fieldsP h
  obtain ⟨r, hr⟩ : ∃ r, fS s (.mk op cmp ⟨lk, li, ⟨lvk, lvn, lvs⟩⟩ ⟨rk, ri, ⟨rvk, rvn, rvs⟩⟩ ps) d = r := ⟨_, rfl⟩
  have HR : Hid (fS s (.mk op cmp ⟨lk, li, ⟨lvk, lvn, lvs⟩⟩ ⟨rk, ri, ⟨rvk, rvn, rvs⟩⟩ ps) d = r) := hr
  rw [hr]
  generalize ps.length = n at *
  have BS : ∀ O, Below B w ((w.setCell ⟨bx, 0, none⟩ (.int .i64 ((s : Int) + 1))).alloc O) := fun O => ((Below.refl _ _).setCell hge _).alloc (by simp; omega) _
  have FIN : ∀ O, SmInv B bx (s + 1) ((w.setCell ⟨bx, 0, none⟩ (.int .i64 ((s : Int) + 1))).alloc O) ∨ 24 < s + 1 := fun O => by
    by_cases h24 : s + 1 ≤ 24
    · have hA : Below (w.heap.size) (w.setCell ⟨bx, 0, none⟩ (.int .i64 ((s : Int) + 1))) ((w.setCell ⟨bx, 0, none⟩ (.int .i64 ((s : Int) + 1))).alloc O) := (Below.refl _ _).alloc (by simp) _
      refine .inl ⟨?_, ?_, ?_, hge, h24⟩
      · rw [hA.cell (p := ⟨bx, 0, none⟩) hlt, World.cell?_setCell_same _ _ _ hc]; push_cast; rfl
      · rw [hA.frozen (p := ⟨bx, 0, none⟩) hlt, World.frozen?_setCell]; exact hf
      · simp; omega
    · exact .inr (by omega)
  have HF := Lib.hid FIN
  have BL : Hid (∀ O, Below B w ((w.setCell ⟨bx, 0, none⟩ (.int .i64 ((s : Int) + 1))).alloc O)) := BS
  have FRM : Hid (∀ O k, k < w.heap.size → k ≠ bx → ((w.setCell ⟨bx, 0, none⟩ (.int .i64 ((s : Int) + 1))).alloc O).heap[k]? = w.heap[k]?) := fun O k hk hn => by
    have hA : Below (w.heap.size) (w.setCell ⟨bx, 0, none⟩ (.int .i64 ((s : Int) + 1))) ((w.setCell ⟨bx, 0, none⟩ (.int .i64 ((s : Int) + 1))).alloc O) := (Below.refl _ _).alloc (by simp) _
    rw [hA.block k hk, Below.heap_setCell _ _ _ _ hn]
  clear hp h hr FIN BS
  by_cases h24 : s + 1 ≤ 24
  · have d1 : decide ((s : Int) + 1 ≤ 24) = true := by simp; omega
    by_cases h8 : d ≤ 8
    · have d2 : decide (d ≤ 8) = true := by simpa using h8
      have HX : Hid (r = some (s + 1)) := by show _ = _; rw [← HR.out]; unfold fS; rw [if_pos ⟨h24, h8⟩]
      clear h24 h8
      go_enter Try.func87, Try.ntmps87
      go_wp2_with fail
      go_ret
      refine ⟨by rw [HX.out]; rfl, BL.out _, fun s' h => ?_⟩
      rw [HX.out] at h; cases h
      refine ⟨?_, fun k hk hn => ⟨FRM.out _ k hk hn, hn⟩⟩
      rcases HF.out (.cells #[.int .i64 op, .int .i64 cmp, .int .i64 lk, .int .i64 li, .int .i64 lvk, .int .i64 lvn, .string lvs, .int .i64 rk, .int .i64 ri, .int .i64 rvk, .int .i64 rvn, .string rvs, .slice a n c] 77) with h | h
      · exact h
      · simp at d1; omega
    · have d2 : decide (d ≤ 8) = false := by simpa using h8
      have HX : Hid (r = none) := by show _ = _; rw [← HR.out]; unfold fS; rw [if_neg (fun x => h8 x.2)]
      clear h24 h8
      go_enter Try.func87, Try.ntmps87
      go_wp2_with fail
      go_ret
      exact ⟨by rw [HX.out]; rfl, BL.out _, fun s' h => by rw [HX.out] at h; cases h⟩
  · have d1 : decide ((s : Int) + 1 ≤ 24) = false := by simp; omega
    have HX : Hid (r = none) := by show _ = _; rw [← HR.out]; unfold fS; rw [if_neg (fun x => h24 x.1)]
    clear h24
    go_enter Try.func87, Try.ntmps87
    go_wp2_with fail
    go_ret
    exact ⟨by rw [HX.out]; rfl, BL.out _, fun s' h => by rw [HX.out] at h; cases h⟩

theorem smClo (B bx : Nat) : Clo Nat fS B 87 bx (SmInv B bx) (fun k _ => k ≠ bx) (fun _ _ => True) (fun _ _ => True) where
  inv s w w' h hb := ⟨(hb.cell (p := ⟨bx, 0, none⟩) h.lt).trans h.cell, (hb.frozen (p := ⟨bx, 0, none⟩) h.lt).trans h.fz, Nat.lt_of_lt_of_le h.lt hb.size, h.ge, h.few⟩
  lt s w h := by have := h.lt; have := h.ge; omega
  safe _ _ _ _ _ _ h := h
  new s w w' k h _ hk := by have := h.lt; show k ≠ bx; omega
  args _ _ _ _ _ _ := trivial
  head _ _ _ _ _ := trivial
  tail _ _ _ _ _ _ _ _ := trivial
  call s p d v w _ hI h := pSmallC_any B bx s d p v w hI h

set_option maxHeartbeats 1000000 in
theorem pSmall_any (p : PT) (v : Value) (w : World) (h : Pd w v p) : Calls Try.prog 64 #[v] w fun e w' => e = .returned (.bool (smallP p)) ∧ Below w.heap.size w w' := by
  have HE : Hid (∀ W, SmInv w.heap.size (w.heap.size + 1) 0 W → Below w.heap.size w W → Calls Try.prog 65 #[v, .int .i64 1, .func (.func 87) #[] #[.pointer (some ⟨w.heap.size + 1, 0, none⟩)]] W fun e w' => e = .returned (.bool (smallP p)) ∧ Below w.heap.size W w') := fun W hI hb =>
    (every_small (smClo w.heap.size (w.heap.size + 1)) p.depth p (Nat.le_refl _) 0 1 v W trivial hI (h.lt.under hb)).mono fun e w' hx => ⟨by rw [hx.1, walk_small], hx.2.1⟩
  obtain ⟨op, cmp, lk, li, lvk, lvn, lvs, rk, ri, rvk, rvn, rvs, ps, a, c, rfl, rfl, hp⟩ := pd_fields h
  generalize smallP _ = z at *
  generalize ps.length = n at *
  clear hp h
  go_enter Try.func64, Try.ntmps64
  go_wp2_with fail
  have hI : SmInv w.heap.size (w.heap.size + 1) 0 ((w.alloc (.cells #[.int .i64 op, .int .i64 cmp, .int .i64 lk, .int .i64 li, .int .i64 lvk, .int .i64 lvn, .string lvs, .int .i64 rk, .int .i64 ri, .int .i64 rvk, .int .i64 rvn, .string rvs, .slice a n c] 77)).alloc (.cells #[.int .i64 0] 3)) :=
    ⟨by go_simp; first | done | rfl, by go_simp, by simp, by omega, by omega⟩
  refine (HE.out _ hI (by (repeat (first | exact Below.refl _ _ | assumption | refine Below.drew ?_ | refine Below.setCell ?_ (by first | omega | (simp only [World.size_alloc]; omega) | (simp; try omega)) _ | refine Below.alloc ?_ (by first | omega | (simp only [World.size_alloc]; omega) | (simp; try omega)) _)))).mono ?_
  rintro e w1 ⟨rfl, hb⟩
  have B1 : Hid (Below w.heap.size w w1) := Below.trans (by (repeat (first | exact Below.refl _ _ | assumption | refine Below.drew ?_ | refine Below.setCell ?_ (by first | omega | (simp only [World.size_alloc]; omega) | (simp; try omega)) _ | refine Below.alloc ?_ (by first | omega | (simp only [World.size_alloc]; omega) | (simp; try omega)) _))) hb
  clear hb hI
  go_wp2_with fail
  go_ret
  exact ⟨rfl, B1.out⟩

structure ChInv (C Q : List Int) (B bx : Nat) (cv qv : Value) (w : World) : Prop where
  c0 : w.cell? ⟨bx, 0, none⟩ = some cv
  c1 : w.cell? ⟨bx, 1, none⟩ = some qv
  lt : bx < w.heap.size
  ge : B ≤ w.heap.size
  hc : IntsAt w cv C
  hq : IntsAt w qv Q

set_option maxHeartbeats 2000000 in
theorem pCheckC_any (C Q : List Int) (B bx : Nat) (cv qv : Value) (d : Int) (p : PT) (v : Value) (w : World) (hI : ChInv C Q B bx cv qv w) (h : PdAt (fun b => b < B) w v p) : Calls Try.prog 66 #[v, .int .i64 d, .pointer (some ⟨bx, 0, none⟩)] w (EvPost (fV C Q () p d) B (fun _ => ChInv C Q B bx cv qv) (fun _ _ => True) w) := by
  have HV : Hid (∀ W, Below w.heap.size w W → Calls Try.prog 67 #[.agg #[cv, qv], v] W fun e w' => e = .returned (.bool (vnB C Q p)) ∧ Below W.heap.size W w') := fun W hb => pValidN_any C Q cv qv p v W (hI.hc.blw hb) (hI.hq.blw hb) (h.all.below hb)
  have HI := Lib.hid hI
  obtain ⟨c0, c1, hlt, hge, hc, hq⟩ := hI
  obtain ⟨ca, cc, rfl⟩ := hc.shape
  obtain ⟨qa, qc, rfl⟩ := hq.shape
  obtain ⟨op, cmp, lk, li, lvk, lvn, lvs, rk, ri, rvk, rvn, rvs, ps, a, c, rfl, rfl, hp⟩ := pd_fieldsP h
  obtain ⟨z, hz⟩ : ∃ z, vnB C Q (.mk op cmp ⟨lk, li, ⟨lvk, lvn, lvs⟩⟩ ⟨rk, ri, ⟨rvk, rvn, rvs⟩⟩ ps) = z := ⟨_, rfl⟩
  have HZ : Hid (fV C Q () (.mk op cmp ⟨lk, li, ⟨lvk, lvn, lvs⟩⟩ ⟨rk, ri, ⟨rvk, rvn, rvs⟩⟩ ps) d = if z then some () else none) := by show fV _ _ _ _ _ = _; unfold fV; rw [hz]
  obtain ⟨r, hr⟩ : ∃ r, fV C Q () (.mk op cmp ⟨lk, li, ⟨lvk, lvn, lvs⟩⟩ ⟨rk, ri, ⟨rvk, rvn, rvs⟩⟩ ps) d = r := ⟨_, rfl⟩
  rw [hr] at HZ ⊢
  rw [hz] at HV
  have HS : Hid (r.isSome = z) := by show r.isSome = z; rw [HZ.out]; cases z <;> rfl
  generalize ps.length = n at *
  generalize hcl : C.length = nc at *
  generalize hql : Q.length = nq at *
  have zb : bx < w.heap.size := hlt
  clear hc hq hp h hz hr HZ hcl hql
  go_enter Try.func66, Try.ntmps66
  go_wp2_with fail
  refine (HV.out _ (by (repeat (first | exact Below.refl _ _ | assumption | refine Below.drew ?_ | refine Below.setCell ?_ (by first | omega | (simp only [World.size_alloc]; omega) | (simp; try omega)) _ | refine Below.alloc ?_ (by first | omega | (simp only [World.size_alloc]; omega) | (simp; try omega)) _)))).mono ?_
  rintro e w1 ⟨rfl, hb⟩
  have B1 : Hid (Below w.heap.size w w1) := Below.trans (by (repeat (first | exact Below.refl _ _ | assumption | refine Below.drew ?_ | refine Below.setCell ?_ (by first | omega | (simp only [World.size_alloc]; omega) | (simp; try omega)) _ | refine Below.alloc ?_ (by first | omega | (simp only [World.size_alloc]; omega) | (simp; try omega)) _))) (hb.mono (by simp only [World.size_alloc]; omega))
  clear hb
  go_wp2_with fail
  go_ret
  refine ⟨by rw [HS.out]; rfl, B1.out.mono hge, fun s' _ => ⟨⟨(B1.out.cell (p := ⟨bx, 0, none⟩) hlt).trans c0, (B1.out.cell (p := ⟨bx, 1, none⟩) hlt).trans c1, Nat.lt_of_lt_of_le hlt B1.out.size, Nat.le_trans hge B1.out.size, HI.out.hc.blw B1.out, HI.out.hq.blw B1.out⟩, fun k hk _ => ⟨B1.out.block k hk, trivial⟩⟩⟩

theorem chClo (C Q : List Int) (B bx : Nat) (cv qv : Value) : Clo Unit (fV C Q) B 66 bx (fun _ => ChInv C Q B bx cv qv) (fun _ _ => True) (fun _ _ => True) (fun _ _ => True) where
  inv _ _ _ h hb := ⟨(hb.cell (p := ⟨bx, 0, none⟩) h.lt).trans h.c0, (hb.cell (p := ⟨bx, 1, none⟩) h.lt).trans h.c1, Nat.lt_of_lt_of_le h.lt hb.size, Nat.le_trans h.ge hb.size, h.hc.blw hb, h.hq.blw hb⟩
  lt _ _ h := h.ge
  safe _ _ _ _ _ _ h := h
  new _ _ _ _ _ _ _ := trivial
  args _ _ _ _ _ _ := trivial
  head _ _ _ _ _ := trivial
  tail _ _ _ _ _ _ _ _ := trivial
  call _ p d v w _ hI h := pCheckC_any C Q B bx cv qv d p v w hI h
end Go.Proofs.Ytjcbmeannhafjaa

/- predicate.Check. -/
namespace Go.Proofs.Ytjcbmeannhafjaa

open Go.RowKit

set_option maxRecDepth 100000 in
set_option maxHeartbeats 4000000 in
theorem pCheck_any (C Q : List Int) (cv qv : Value) (p : PT) (v : Value) (w : World) (hc : IntsAt w cv C) (hq : IntsAt w qv Q) (h : Pd w v p) : Calls Try.prog 38 #[cv, qv, v] w fun e w' => e = .returned (.int .i64 (checkP C Q p)) ∧ Below w.heap.size w w' := by
  have HA : Hid (∀ W, Below w.heap.size w W → Calls Try.prog 63 #[cv] W fun e w' => e = .returned (.bool (okKs C)) ∧ W = w') := fun W hb => pColumnKinds_any cv C W (hc.blw hb)
  have HB : Hid (∀ W, Below w.heap.size w W → Calls Try.prog 63 #[qv] W fun e w' => e = .returned (.bool (okKs Q)) ∧ W = w') := fun W hb => pColumnKinds_any qv Q W (hq.blw hb)
  have HS : Hid (∀ W, Below w.heap.size w W → Calls Try.prog 64 #[v] W fun e w' => e = .returned (.bool (smallP p)) ∧ Below W.heap.size W w') := fun W hb => pSmall_any p v W (h.below hb)
  have HE : Hid (∀ bx W, W.cell? ⟨bx, 0, none⟩ = some cv → W.cell? ⟨bx, 1, none⟩ = some qv → bx < W.heap.size → Below w.heap.size w W → Calls Try.prog 65 #[v, .int .i64 1, .func (.func 66) #[] #[.pointer (some ⟨bx, 0, none⟩)]] W fun e w' => e = .returned (.bool (vldP C Q p)) ∧ Below w.heap.size W w') := fun bx W h0 h1 hlt hb =>
    (every_Check (chClo C Q w.heap.size bx cv qv) p.depth p (Nat.le_refl _) () 1 v W trivial ⟨h0, h1, hlt, hb.size, hc.blw hb, hq.blw hb⟩ (h.lt.under hb)).mono fun e w' hx => ⟨by rw [hx.1, walk_fV], hx.2.1⟩
  have hR : checkP C Q p = if okKs C = false then 1 else if okKs Q = false then 1 else if smallP p = false then 2 else if vldP C Q p = false then 50 else 0 := by
    unfold checkP
    cases okKs C <;> cases okKs Q <;> rfl
  rw [hR]
  clear hR
  obtain ⟨ca, cc, rfl⟩ := hc.shape
  obtain ⟨qa, qc, rfl⟩ := hq.shape
  obtain ⟨op, cmp, lk, li, lvk, lvn, lvs, rk, ri, rvk, rvn, rvs, ps, a, c, rfl, rfl, hp⟩ := pd_fields h
  generalize okKs C = x1 at *
  generalize okKs Q = x2 at *
  generalize smallP _ = x3 at *
  generalize vldP _ _ _ = x4 at *
  generalize ps.length = n at *
  generalize C.length = nc at *
  generalize Q.length = nq at *
  clear hc hq hp h
  have HK : Hid (∀ W, Below (w.heap.size + 1) (w.alloc (.cells #[.int .i64 op, .int .i64 cmp, .int .i64 lk, .int .i64 li, .int .i64 lvk, .int .i64 lvn, .string lvs, .int .i64 rk, .int .i64 ri, .int .i64 rvk, .int .i64 rvn, .string rvs, .slice a n c] 77)) W → W.cell? ⟨w.heap.size, 0, none⟩ = some (.int .i64 op) ∧ W.cell? ⟨w.heap.size, 1, none⟩ = some (.int .i64 cmp) ∧ W.cell? ⟨w.heap.size, 2, none⟩ = some (.int .i64 lk) ∧ W.cell? ⟨w.heap.size, 3, none⟩ = some (.int .i64 li) ∧ W.cell? ⟨w.heap.size, 4, none⟩ = some (.int .i64 lvk) ∧ W.cell? ⟨w.heap.size, 5, none⟩ = some (.int .i64 lvn) ∧ W.cell? ⟨w.heap.size, 6, none⟩ = some (.string lvs) ∧ W.cell? ⟨w.heap.size, 7, none⟩ = some (.int .i64 rk) ∧ W.cell? ⟨w.heap.size, 8, none⟩ = some (.int .i64 ri) ∧ W.cell? ⟨w.heap.size, 9, none⟩ = some (.int .i64 rvk) ∧ W.cell? ⟨w.heap.size, 10, none⟩ = some (.int .i64 rvn) ∧ W.cell? ⟨w.heap.size, 11, none⟩ = some (.string rvs) ∧ W.cell? ⟨w.heap.size, 12, none⟩ = some (.slice a n c)) := fun W hb => ⟨(hb.cell (p := ⟨w.heap.size, 0, none⟩) (show w.heap.size < _ by omega)).trans (by go_simp), (hb.cell (p := ⟨w.heap.size, 1, none⟩) (show w.heap.size < _ by omega)).trans (by go_simp), (hb.cell (p := ⟨w.heap.size, 2, none⟩) (show w.heap.size < _ by omega)).trans (by go_simp), (hb.cell (p := ⟨w.heap.size, 3, none⟩) (show w.heap.size < _ by omega)).trans (by go_simp), (hb.cell (p := ⟨w.heap.size, 4, none⟩) (show w.heap.size < _ by omega)).trans (by go_simp), (hb.cell (p := ⟨w.heap.size, 5, none⟩) (show w.heap.size < _ by omega)).trans (by go_simp), (hb.cell (p := ⟨w.heap.size, 6, none⟩) (show w.heap.size < _ by omega)).trans (by go_simp), (hb.cell (p := ⟨w.heap.size, 7, none⟩) (show w.heap.size < _ by omega)).trans (by go_simp), (hb.cell (p := ⟨w.heap.size, 8, none⟩) (show w.heap.size < _ by omega)).trans (by go_simp), (hb.cell (p := ⟨w.heap.size, 9, none⟩) (show w.heap.size < _ by omega)).trans (by go_simp), (hb.cell (p := ⟨w.heap.size, 10, none⟩) (show w.heap.size < _ by omega)).trans (by go_simp), (hb.cell (p := ⟨w.heap.size, 11, none⟩) (show w.heap.size < _ by omega)).trans (by go_simp), (hb.cell (p := ⟨w.heap.size, 12, none⟩) (show w.heap.size < _ by omega)).trans (by go_simp)⟩
  cases x1 with
  | false =>
    clear HB HS HE HK
    go_enter Try.func38, Try.ntmps38
    go_wp2_with fail
    refine (HA.out _ (by (repeat (first | exact Below.refl _ _ | assumption | refine Below.drew ?_ | refine Below.setCell ?_ (by first | omega | (simp only [World.size_alloc]; omega) | (simp; try omega)) _ | refine Below.alloc ?_ (by first | omega | (simp only [World.size_alloc]; omega) | (simp; try omega)) _)))).mono ?_
    rintro e w1 ⟨rfl, rfl⟩
    go_wp2_with fail
    go_ret
    exact ⟨rfl, by (repeat (first | exact Below.refl _ _ | assumption | refine Below.drew ?_ | refine Below.setCell ?_ (by first | omega | (simp only [World.size_alloc]; omega) | (simp; try omega)) _ | refine Below.alloc ?_ (by first | omega | (simp only [World.size_alloc]; omega) | (simp; try omega)) _))⟩
  | true =>
    cases x2 with
    | false =>
      clear HS HE HK
      go_enter Try.func38, Try.ntmps38
      go_wp2_with fail
      refine (HA.out _ (by (repeat (first | exact Below.refl _ _ | assumption | refine Below.drew ?_ | refine Below.setCell ?_ (by first | omega | (simp only [World.size_alloc]; omega) | (simp; try omega)) _ | refine Below.alloc ?_ (by first | omega | (simp only [World.size_alloc]; omega) | (simp; try omega)) _)))).mono ?_
      rintro e w1 ⟨rfl, rfl⟩
      go_wp2_with fail
      refine (HB.out _ (by (repeat (first | exact Below.refl _ _ | assumption | refine Below.drew ?_ | refine Below.setCell ?_ (by first | omega | (simp only [World.size_alloc]; omega) | (simp; try omega)) _ | refine Below.alloc ?_ (by first | omega | (simp only [World.size_alloc]; omega) | (simp; try omega)) _)))).mono ?_
      rintro e w1 ⟨rfl, rfl⟩
      go_wp2_with fail
      go_ret
      exact ⟨rfl, by (repeat (first | exact Below.refl _ _ | assumption | refine Below.drew ?_ | refine Below.setCell ?_ (by first | omega | (simp only [World.size_alloc]; omega) | (simp; try omega)) _ | refine Below.alloc ?_ (by first | omega | (simp only [World.size_alloc]; omega) | (simp; try omega)) _))⟩
    | true =>
      cases x3 with
      | false =>
        clear HE HK
        go_enter Try.func38, Try.ntmps38
        go_wp2_with fail
        refine (HA.out _ (by (repeat (first | exact Below.refl _ _ | assumption | refine Below.drew ?_ | refine Below.setCell ?_ (by first | omega | (simp only [World.size_alloc]; omega) | (simp; try omega)) _ | refine Below.alloc ?_ (by first | omega | (simp only [World.size_alloc]; omega) | (simp; try omega)) _)))).mono ?_
        rintro e w1 ⟨rfl, rfl⟩
        go_wp2_with fail
        refine (HB.out _ (by (repeat (first | exact Below.refl _ _ | assumption | refine Below.drew ?_ | refine Below.setCell ?_ (by first | omega | (simp only [World.size_alloc]; omega) | (simp; try omega)) _ | refine Below.alloc ?_ (by first | omega | (simp only [World.size_alloc]; omega) | (simp; try omega)) _)))).mono ?_
        rintro e w1 ⟨rfl, rfl⟩
        go_wp2_with fail
        refine (HS.out _ (by (repeat (first | exact Below.refl _ _ | assumption | refine Below.drew ?_ | refine Below.setCell ?_ (by first | omega | (simp only [World.size_alloc]; omega) | (simp; try omega)) _ | refine Below.alloc ?_ (by first | omega | (simp only [World.size_alloc]; omega) | (simp; try omega)) _)))).mono ?_
        rintro e w1 ⟨rfl, hb⟩
        have B1 : Hid (Below w.heap.size w w1) := Below.trans (by (repeat (first | exact Below.refl _ _ | assumption | refine Below.drew ?_ | refine Below.setCell ?_ (by first | omega | (simp only [World.size_alloc]; omega) | (simp; try omega)) _ | refine Below.alloc ?_ (by first | omega | (simp only [World.size_alloc]; omega) | (simp; try omega)) _))) (hb.mono (by simp only [World.size_alloc]; omega))
        clear hb
        go_wp2_with fail
        go_ret
        exact ⟨rfl, B1.out⟩
      | true =>
        cases x4
        all_goals
          go_enter Try.func38, Try.ntmps38
          go_wp2_with fail
          refine (HA.out _ (by (repeat (first | exact Below.refl _ _ | assumption | refine Below.drew ?_ | refine Below.setCell ?_ (by first | omega | (simp only [World.size_alloc]; omega) | (simp; try omega)) _ | refine Below.alloc ?_ (by first | omega | (simp only [World.size_alloc]; omega) | (simp; try omega)) _)))).mono ?_
          rintro e w1 ⟨rfl, rfl⟩
          go_wp2_with fail
          refine (HB.out _ (by (repeat (first | exact Below.refl _ _ | assumption | refine Below.drew ?_ | refine Below.setCell ?_ (by first | omega | (simp only [World.size_alloc]; omega) | (simp; try omega)) _ | refine Below.alloc ?_ (by first | omega | (simp only [World.size_alloc]; omega) | (simp; try omega)) _)))).mono ?_
          rintro e w1 ⟨rfl, rfl⟩
          go_wp2_with fail
          refine (HS.out _ (by (repeat (first | exact Below.refl _ _ | assumption | refine Below.drew ?_ | refine Below.setCell ?_ (by first | omega | (simp only [World.size_alloc]; omega) | (simp; try omega)) _ | refine Below.alloc ?_ (by first | omega | (simp only [World.size_alloc]; omega) | (simp; try omega)) _)))).mono ?_
          rintro e w1 ⟨rfl, hb⟩
          have B1 : Hid (Below w.heap.size w w1) := Below.trans (by (repeat (first | exact Below.refl _ _ | assumption | refine Below.drew ?_ | refine Below.setCell ?_ (by first | omega | (simp only [World.size_alloc]; omega) | (simp; try omega)) _ | refine Below.alloc ?_ (by first | omega | (simp only [World.size_alloc]; omega) | (simp; try omega)) _))) (hb.mono (by simp only [World.size_alloc]; omega))
          have z1 := hb.size
          simp only [World.size_alloc] at hb z1
          have zw : w.heap.size < w1.heap.size := by omega
          obtain ⟨c0, c1, c2, c3, c4, c5, c6, c7, c8, c9, c10, c11, c12⟩ := HK.out _ hb
          clear hb
          go_wp2_with fail
          have q0 : (w1.alloc (.cells #[.slice ca nc cc, .slice qa nq qc] 111)).cell? ⟨w1.heap.size, 0, none⟩ = some (.slice ca nc cc) := by go_simp
          have q1 : (w1.alloc (.cells #[.slice ca nc cc, .slice qa nq qc] 111)).cell? ⟨w1.heap.size, 1, none⟩ = some (.slice qa nq qc) := by go_simp
          refine (HE.out _ _ q0 q1 (by simp) (by have hB := B1.out; have hS := hB.size; (repeat (first | exact Below.refl _ _ | assumption | refine Below.drew ?_ | refine Below.setCell ?_ (by first | omega | (simp only [World.size_alloc]; omega) | (simp; try omega)) _ | refine Below.alloc ?_ (by first | omega | (simp only [World.size_alloc]; omega) | (simp; try omega)) _)))).mono ?_
          rintro e w2 ⟨rfl, hb⟩
          have B2 : Hid (Below w.heap.size w w2) := Below.trans (by have hB := B1.out; have hS := hB.size; (repeat (first | exact Below.refl _ _ | assumption | refine Below.drew ?_ | refine Below.setCell ?_ (by first | omega | (simp only [World.size_alloc]; omega) | (simp; try omega)) _ | refine Below.alloc ?_ (by first | omega | (simp only [World.size_alloc]; omega) | (simp; try omega)) _))) hb
          clear hb q0 q1 c0 c1 c2 c3 c4 c5 c6 c7 c8 c9 c10 c11 c12
          go_wp2_with fail
          go_ret
          exact ⟨rfl, B2.out⟩
end Go.Proofs.Ytjcbmeannhafjaa
