
/- The reference's gather and Columns. -/
import Derived.Test.YtjkjmkplcjfogaaPdAdd

import Derived.Test.YtjkjmkplcjfogaaPdHolds

import Derived.Test.YtjkjmkplcjfogaaPdColumns2

namespace Go.Proofs.Ytjkjmkplcjfogaa

open Go.RowKit Go.Deep

def GathPost (R : List Int) (w : World) (e : Ending) (w' : World) : Prop := ∃ a c, e = .returned (.slice a R.length c) ∧ IntsAt w' (.slice a R.length c) R ∧ Below w.heap.size w w'
def GathAt (p : PT) : Prop := ∀ (l : List Int) (v lv : Value) (w : World), Pd w v p → IntsAt w lv l → l.length + (colP p).length ≤ 1099511627776 → Calls Try.prog 47 #[v, lv] w (GathPost (addAll l (colP p)) w)
theorem colL_take (ps : List PT) (k : Nat) (h : k < ps.length) : colL (ps.take (k + 1)) = colL (ps.take k) ++ colP ps[k] := by
  induction ps generalizing k with
  | nil => simp at h
  | cons p t ih =>
    cases k with
    | zero => simp [colL]
    | succ k =>
      have := ih k (by simpa using h)
      simp only [List.take_succ_cons, List.getElem_cons_succ]
      rw [colL, this, colL, List.append_assoc]
theorem colL_take_le (ps : List PT) (k : Nat) : (colL (ps.take k)).length ≤ (colL ps).length := by
  induction ps generalizing k with
  | nil => simp
  | cons p t ih =>
    cases k with
    | zero => simp [colL]
    | succ k =>
      have := ih k
      rw [List.take_succ_cons, colL, colL, List.length_append, List.length_append]; omega
def oSel (x y : Od) (k : Nat) : List Int := if k = 0 then [] else if k = 1 then colO x else colO x ++ colO y

set_option maxRecDepth 100000 in
set_option maxHeartbeats 8000000 in
theorem rGather_any : ∀ (d : Nat) (p : PT), p.depth ≤ d → GathAt p
  | 0, p, hd => by have := p.depth_pos; omega
  | d + 1, p, hd => by
    intro l v lv w h hlv hlen
    have hIH : ∀ j (hj : j < p.args.length), GathAt p.args[j] := fun j hj => rGather_any d _ (PT.depth_arg hj hd)
    obtain ⟨op, cmp, lk, li, lvk, lvn, lvs, rk, ri, rvk, rvn, rvs, ps, a, c, rfl, rfl, hp⟩ := pd_fields h
    change ∀ j (hj : j < ps.length), GathAt ps[j] at hIH
    have HIH := Lib.hid hIH
    have HP := Lib.hid hp
    have HLV := Lib.hid hlv
    obtain ⟨la, lc, rfl, -⟩ : ∃ a c, lv = .slice a l.length c ∧ True := by obtain ⟨a, c, e, _⟩ := hlv; exact ⟨a, c, e, trivial⟩
    rw [colP] at hlen ⊢
    rw [List.length_append] at hlen
    obtain ⟨n, hn⟩ : ∃ n, ps.length = n := ⟨_, rfl⟩
    have HN := Lib.hid hn
    have hfew := hp.1.few
    have hnc : n ≤ c := by have := hp.1.le; omega
    rw [hn] at hfew ⊢
    obtain ⟨lm, hlm⟩ : ∃ lm, l.length = lm := ⟨_, rfl⟩
    have HLM := Lib.hid hlm
    rw [hlm] at HLV hlen ⊢
    clear hd h hIH hp hn hlv hlm
    obtain ⟨cn, hcn⟩ : ∃ cn, colN (PT.mk op cmp ⟨lk, li, ⟨lvk, lvn, lvs⟩⟩ ⟨rk, ri, ⟨rvk, rvn, rvs⟩⟩ ps) = cn := ⟨_, rfl⟩
    rw [hcn] at hlen ⊢
    have HCN := Lib.hid hcn
    clear hcn
    have HADDS : Hid (∀ (s : List Int) (x : Int) (sv : Value) (W : World), IntsAt W sv s → s.length ≤ 1099511627776 → Calls Try.prog 73 #[sv, .int .i64 x] W (AddPost s x W)) := fun s x sv W h1 h2 => rAdd_any s x sv W h1 h2
    by_cases h3 : op = 3
    · subst h3
      have HCN2 : Hid (cn = colO ⟨lk, li, ⟨lvk, lvn, lvs⟩⟩ ++ colO ⟨rk, ri, ⟨rvk, rvn, rvs⟩⟩) := by show _ = _; rw [← HCN.out]; unfold colN; rfl
      obtain ⟨wq, hwq⟩ : ∃ wq, w.alloc (.cells #[.int .i64 3, .int .i64 cmp, .int .i64 lk, .int .i64 li, .int .i64 lvk, .int .i64 lvn, .string lvs, .int .i64 rk, .int .i64 ri, .int .i64 rvk, .int .i64 rvn, .string rvs, .slice a n c] 29) = wq := ⟨_, rfl⟩
      have HB : Hid (Below w.heap.size w wq) := by rw [← hwq]; exact (Below.refl _ _).alloc (Nat.le_refl _) _
      have d0 : wq.cell? ⟨w.heap.size, 0, none⟩ = some (.int .i64 3) := by subst hwq; go_simp
      have d1 : wq.cell? ⟨w.heap.size, 1, none⟩ = some (.int .i64 cmp) := by subst hwq; go_simp
      have d2 : wq.cell? ⟨w.heap.size, 2, none⟩ = some (.int .i64 lk) := by subst hwq; go_simp
      have d3 : wq.cell? ⟨w.heap.size, 3, none⟩ = some (.int .i64 li) := by subst hwq; go_simp
      have d4 : wq.cell? ⟨w.heap.size, 4, none⟩ = some (.int .i64 lvk) := by subst hwq; go_simp
      have d5 : wq.cell? ⟨w.heap.size, 5, none⟩ = some (.int .i64 lvn) := by subst hwq; go_simp
      have d6 : wq.cell? ⟨w.heap.size, 6, none⟩ = some (.string lvs) := by subst hwq; go_simp
      have d7 : wq.cell? ⟨w.heap.size, 7, none⟩ = some (.int .i64 rk) := by subst hwq; go_simp
      have d8 : wq.cell? ⟨w.heap.size, 8, none⟩ = some (.int .i64 ri) := by subst hwq; go_simp
      have d9 : wq.cell? ⟨w.heap.size, 9, none⟩ = some (.int .i64 rvk) := by subst hwq; go_simp
      have d10 : wq.cell? ⟨w.heap.size, 10, none⟩ = some (.int .i64 rvn) := by subst hwq; go_simp
      have d11 : wq.cell? ⟨w.heap.size, 11, none⟩ = some (.string rvs) := by subst hwq; go_simp
      have d12 : wq.cell? ⟨w.heap.size, 12, none⟩ = some (.slice a n c) := by subst hwq; go_simp
      have HZQ : Hid (wq.heap.size = w.heap.size + 1) := by show _ = _; rw [← hwq]; simp
      have hzq1 : wq.heap.size ≤ w.heap.size + 1 := by rw [HZQ.out]; exact Nat.le_refl _
      have hzq2 : w.heap.size + 1 ≤ wq.heap.size := by rw [HZQ.out]; exact Nat.le_refl _
      have HC : Hid (∀ W, Below (w.heap.size + 1) wq W → W.cell? ⟨w.heap.size, 12, none⟩ = some (.slice a n c)) := fun W hb => (hb.cell (p := ⟨w.heap.size, 12, none⟩) (show w.heap.size < _ by omega)).trans d12
      go_enter Try.func47, Try.ntmps47
      go_wp2_with fail
      obtain ⟨wo, hwo⟩ : ∃ wo, wq.alloc (.cells #[.int .i64 lk, .int .i64 li, .int .i64 lvk, .int .i64 lvn, .string lvs, .int .i64 rk, .int .i64 ri, .int .i64 rvk, .int .i64 rvn, .string rvs] 26) = wo := ⟨_, rfl⟩
      have BO : Hid (Below wq.heap.size wq wo) := by rw [← hwo]; exact (Below.refl _ _).alloc (Nat.le_refl _) _
      have HZO : Hid (wo.heap.size = wq.heap.size + 1) := by show _ = _; rw [← hwo]; simp
      have hzo1 : wq.heap.size + 1 ≤ wo.heap.size := by rw [HZO.out]; exact Nat.le_refl _
      have e0 : wo.cell? ⟨wq.heap.size, 0, none⟩ = some (.int .i64 lk) := by subst hwo; go_simp
      have e1 : wo.cell? ⟨wq.heap.size, 1, none⟩ = some (.int .i64 li) := by subst hwo; go_simp
      have e2 : wo.cell? ⟨wq.heap.size, 2, none⟩ = some (.int .i64 lvk) := by subst hwo; go_simp
      have e3 : wo.cell? ⟨wq.heap.size, 3, none⟩ = some (.int .i64 lvn) := by subst hwo; go_simp
      have e4 : wo.cell? ⟨wq.heap.size, 4, none⟩ = some (.string lvs) := by subst hwo; go_simp
      have e5 : wo.cell? ⟨wq.heap.size, 5, none⟩ = some (.int .i64 rk) := by subst hwo; go_simp
      have e6 : wo.cell? ⟨wq.heap.size, 6, none⟩ = some (.int .i64 ri) := by subst hwo; go_simp
      have e7 : wo.cell? ⟨wq.heap.size, 7, none⟩ = some (.int .i64 rvk) := by subst hwo; go_simp
      have e8 : wo.cell? ⟨wq.heap.size, 8, none⟩ = some (.int .i64 rvn) := by subst hwo; go_simp
      have e9 : wo.cell? ⟨wq.heap.size, 9, none⟩ = some (.string rvs) := by subst hwo; go_simp
      have HOC : Hid (∀ W, Below (wq.heap.size + 1) wo W → W.cell? ⟨wq.heap.size, 0, none⟩ = some (.int .i64 lk) ∧ W.cell? ⟨wq.heap.size, 1, none⟩ = some (.int .i64 li) ∧ W.cell? ⟨wq.heap.size, 2, none⟩ = some (.int .i64 lvk) ∧ W.cell? ⟨wq.heap.size, 3, none⟩ = some (.int .i64 lvn) ∧ W.cell? ⟨wq.heap.size, 4, none⟩ = some (.string lvs) ∧ W.cell? ⟨wq.heap.size, 5, none⟩ = some (.int .i64 rk) ∧ W.cell? ⟨wq.heap.size, 6, none⟩ = some (.int .i64 ri) ∧ W.cell? ⟨wq.heap.size, 7, none⟩ = some (.int .i64 rvk) ∧ W.cell? ⟨wq.heap.size, 8, none⟩ = some (.int .i64 rvn) ∧ W.cell? ⟨wq.heap.size, 9, none⟩ = some (.string rvs)) := fun W hb => by
        have q : ∀ j, W.cell? ⟨wq.heap.size, j, none⟩ = wo.cell? ⟨wq.heap.size, j, none⟩ := fun j => hb.cell (p := ⟨wq.heap.size, j, none⟩) (show wq.heap.size < _ by omega)
        exact ⟨(q 0).trans e0, (q 1).trans e1, (q 2).trans e2, (q 3).trans e3, (q 4).trans e4, (q 5).trans e5, (q 6).trans e6, (q 7).trans e7, (q 8).trans e8, (q 9).trans e9⟩
      try rw [hwq]
      try rw [hwo]
      have HLO : Hid (IntsAt wo (.slice la lm lc) l) := (HLV.out.blw HB.out).blw BO.out
      clear hwq hwo d0 d1 d2 d3 d4 d5 d6 d7 d8 d9 d10 d11 d12 e0 e1 e2 e3 e4 e5 e6 e7 e8 e9
      go_loopw [1, 17] (fun s1 i wr => ∃ (k : Nat) (S : List Int) (sa : Option Addr) (sc : Nat), k ≤ 2 ∧ i = .int .i64 k ∧ s1 = .slice sa S.length sc ∧ Hid (S = addAll l (oSel ⟨lk, li, ⟨lvk, lvn, lvs⟩⟩ ⟨rk, ri, ⟨rvk, rvn, rvs⟩⟩ k)) ∧ Hid (IntsAt wr (.slice sa S.length sc) S) ∧ Hid (Below (wq.heap.size + 1) wo wr)) (fun _ i _ => 2 - (intOf i).toNat)
      case atStart => exact ⟨0, l, la, lc, by omega, rfl, by rw [HLM.out], (by show _ = _; rw [oSel, if_pos rfl]; rfl), (by show IntsAt _ _ _; rw [HLM.out]; exact HLO.out), (by show Below _ _ _; exact Below.refl _ _)⟩
      case round =>
        obtain ⟨k, S, sa, sc, hk, rfl, rfl, HE, HS, HW⟩ := hrel
        clear HLO HLV
        have hwz : wq.heap.size + 1 ≤ wr.heap.size := by have := HW.out.size; omega
        have hwq1 : wq.heap.size < wr.heap.size := by omega
        have HQR : Hid (Below (w.heap.size + 1) wq wr) := (BO.out.mono (by omega)).trans (HW.out.mono (by omega))
        have hcolN : cn.length ≤ 1099511627776 := by omega
        have HSZ : Hid (S.length ≤ 1099511627776 ∧ (k < 2 → S.length + 1 ≤ 1099511627776 + 1)) := by
          have h1 := len_addAll (oSel ⟨lk, li, ⟨lvk, lvn, lvs⟩⟩ ⟨rk, ri, ⟨rvk, rvn, rvs⟩⟩ k) l
          have h2 : (oSel ⟨lk, li, ⟨lvk, lvn, lvs⟩⟩ ⟨rk, ri, ⟨rvk, rvn, rvs⟩⟩ k).length ≤ cn.length := by
            rw [HCN2.out]; unfold oSel; split; simp; split; (rw [List.length_append]; omega); exact Nat.le_refl _
          rw [← HE.out, HLM.out] at h1
          exact ⟨by omega, fun _ => by omega⟩
        obtain ⟨c0, c1, c2, c3, c4, c5, c6, c7, c8, c9⟩ := HOC.out wr HW.out
        obtain ⟨sn, hsn⟩ : ∃ sn, S.length = sn := ⟨_, rfl⟩
        have HSN := Lib.hid hsn
        rw [hsn] at HS HSZ ⊢
        clear hsn
        have hcase : k = 0 ∨ k = 1 ∨ k = 2 := by omega
        rcases hcase with rfl | rfl | rfl
        · have HNX : Hid (addAll l (oSel ⟨lk, li, ⟨lvk, lvn, lvs⟩⟩ ⟨rk, ri, ⟨rvk, rvn, rvs⟩⟩ 1) = addAll S (colO ⟨lk, li, ⟨lvk, lvn, lvs⟩⟩)) := by
              show _ = _
              rw [HE.out]; rfl
          by_cases h1 : lk = 1
          · by_cases h0 : 0 ≤ li
            · have HCO : Hid (colO ⟨lk, li, ⟨lvk, lvn, lvs⟩⟩ = [li]) := by show _ = _; unfold colO; rw [if_pos ⟨h1, h0⟩]
              have d0 : decide (0 ≤ li) = true := by simpa using h0
              have HNX2 : Hid (addAll l (oSel ⟨lk, li, ⟨lvk, lvn, lvs⟩⟩ ⟨rk, ri, ⟨rvk, rvn, rvs⟩⟩ 1) = addI S li) := by show _ = _; rw [HNX.out, HCO.out]; rfl
              have HA : Hid (∀ W, Below wr.heap.size wr W → Calls Try.prog 73 #[.slice sa sn sc, .int .i64 li] W (AddPost S li W)) := fun W hb => HADDS.out S li _ W (HS.out.blw hb) (by rw [HSN.out]; exact HSZ.out.1)
              subst h1
              go_wp2_with fail
              refine (HA.out _ (by (repeat (first | exact Below.refl _ _ | assumption | refine Below.drew ?_ | refine Below.setCell ?_ (by first | omega | (simp only [World.size_alloc]; omega) | (simp; try omega)) _ | refine Below.alloc ?_ (by first | omega | (simp only [World.size_alloc]; omega) | (simp; try omega)) _)))).mono ?_
              rintro e w5 ⟨ta, tc, rfl, hti, hb5⟩
              have B5 : Hid (Below wr.heap.size wr w5) := Below.trans (by (repeat (first | exact Below.refl _ _ | assumption | refine Below.drew ?_ | refine Below.setCell ?_ (by first | omega | (simp only [World.size_alloc]; omega) | (simp; try omega)) _ | refine Below.alloc ?_ (by first | omega | (simp only [World.size_alloc]; omega) | (simp; try omega)) _))) (hb5.mono (by first | omega | (simp only [World.size_alloc]; omega) | (simp; done) | (simp; omega)))
              have HTI := Lib.hid hti
              clear hb5 hti HS HA c0 c1 c2 c3 c4 c5 c6 c7 c8 c9
              go_wp2_with fail
              go_roundw
              case rel => exact ⟨1, addI S li, ta, tc, by omega, by go_num, rfl, HNX2.out.symm, HTI, HW.out.trans (B5.out.mono hwz)⟩
              case measure => simp [intOf]
            · have HCO : Hid (colO ⟨lk, li, ⟨lvk, lvn, lvs⟩⟩ = []) := by show _ = _; unfold colO; rw [if_neg (fun hh => h0 hh.2)]
              have d0 : decide (0 ≤ li) = false := by simpa using h0
              have HNX2 : Hid (addAll l (oSel ⟨lk, li, ⟨lvk, lvn, lvs⟩⟩ ⟨rk, ri, ⟨rvk, rvn, rvs⟩⟩ 1) = S) := by show _ = _; rw [HNX.out, HCO.out]; rfl
              subst h1
              go_wp2_with fail
              go_roundw
              case rel => exact ⟨1, S, sa, sc, by omega, by go_num, by rw [HSN.out], HNX2.out.symm, (by rw [HSN.out]; exact HS.out.blw (by (repeat (first | exact Below.refl _ _ | assumption | refine Below.drew ?_ | refine Below.setCell ?_ (by first | omega | (simp only [World.size_alloc]; omega) | (simp; try omega)) _ | refine Below.alloc ?_ (by first | omega | (simp only [World.size_alloc]; omega) | (simp; try omega)) _)))), HW.out.trans (Below.mono (by (repeat (first | exact Below.refl _ _ | assumption | refine Below.drew ?_ | refine Below.setCell ?_ (by first | omega | (simp only [World.size_alloc]; omega) | (simp; try omega)) _ | refine Below.alloc ?_ (by first | omega | (simp only [World.size_alloc]; omega) | (simp; try omega)) _))) hwz)⟩
              case measure => simp [intOf]
          · have HCO : Hid (colO ⟨lk, li, ⟨lvk, lvn, lvs⟩⟩ = []) := by show _ = _; unfold colO; rw [if_neg (fun hh => h1 hh.1)]
            have d1 : (lk == 1) = false := by simpa using h1
            have HNX2 : Hid (addAll l (oSel ⟨lk, li, ⟨lvk, lvn, lvs⟩⟩ ⟨rk, ri, ⟨rvk, rvn, rvs⟩⟩ 1) = S) := by show _ = _; rw [HNX.out, HCO.out]; rfl
            go_wp2_with fail
            go_roundw
            case rel => exact ⟨1, S, sa, sc, by omega, by go_num, by rw [HSN.out], HNX2.out.symm, (by rw [HSN.out]; exact HS.out.blw (by (repeat (first | exact Below.refl _ _ | assumption | refine Below.drew ?_ | refine Below.setCell ?_ (by first | omega | (simp only [World.size_alloc]; omega) | (simp; try omega)) _ | refine Below.alloc ?_ (by first | omega | (simp only [World.size_alloc]; omega) | (simp; try omega)) _)))), HW.out.trans (Below.mono (by (repeat (first | exact Below.refl _ _ | assumption | refine Below.drew ?_ | refine Below.setCell ?_ (by first | omega | (simp only [World.size_alloc]; omega) | (simp; try omega)) _ | refine Below.alloc ?_ (by first | omega | (simp only [World.size_alloc]; omega) | (simp; try omega)) _))) hwz)⟩
            case measure => simp [intOf]
        · have HNX : Hid (addAll l (oSel ⟨lk, li, ⟨lvk, lvn, lvs⟩⟩ ⟨rk, ri, ⟨rvk, rvn, rvs⟩⟩ 2) = addAll S (colO ⟨rk, ri, ⟨rvk, rvn, rvs⟩⟩)) := by
              show _ = _
              rw [HE.out, ← addAll_app]; rfl
          by_cases h1 : rk = 1
          · by_cases h0 : 0 ≤ ri
            · have HCO : Hid (colO ⟨rk, ri, ⟨rvk, rvn, rvs⟩⟩ = [ri]) := by show _ = _; unfold colO; rw [if_pos ⟨h1, h0⟩]
              have d0 : decide (0 ≤ ri) = true := by simpa using h0
              have HNX2 : Hid (addAll l (oSel ⟨lk, li, ⟨lvk, lvn, lvs⟩⟩ ⟨rk, ri, ⟨rvk, rvn, rvs⟩⟩ 2) = addI S ri) := by show _ = _; rw [HNX.out, HCO.out]; rfl
              have HA : Hid (∀ W, Below wr.heap.size wr W → Calls Try.prog 73 #[.slice sa sn sc, .int .i64 ri] W (AddPost S ri W)) := fun W hb => HADDS.out S ri _ W (HS.out.blw hb) (by rw [HSN.out]; exact HSZ.out.1)
              subst h1
              go_wp2_with fail
              refine (HA.out _ (by (repeat (first | exact Below.refl _ _ | assumption | refine Below.drew ?_ | refine Below.setCell ?_ (by first | omega | (simp only [World.size_alloc]; omega) | (simp; try omega)) _ | refine Below.alloc ?_ (by first | omega | (simp only [World.size_alloc]; omega) | (simp; try omega)) _)))).mono ?_
              rintro e w5 ⟨ta, tc, rfl, hti, hb5⟩
              have B5 : Hid (Below wr.heap.size wr w5) := Below.trans (by (repeat (first | exact Below.refl _ _ | assumption | refine Below.drew ?_ | refine Below.setCell ?_ (by first | omega | (simp only [World.size_alloc]; omega) | (simp; try omega)) _ | refine Below.alloc ?_ (by first | omega | (simp only [World.size_alloc]; omega) | (simp; try omega)) _))) (hb5.mono (by first | omega | (simp only [World.size_alloc]; omega) | (simp; done) | (simp; omega)))
              have HTI := Lib.hid hti
              clear hb5 hti HS HA c0 c1 c2 c3 c4 c5 c6 c7 c8 c9
              go_wp2_with fail
              go_roundw
              case rel => exact ⟨2, addI S ri, ta, tc, by omega, by go_num, rfl, HNX2.out.symm, HTI, HW.out.trans (B5.out.mono hwz)⟩
              case measure => simp [intOf]
            · have HCO : Hid (colO ⟨rk, ri, ⟨rvk, rvn, rvs⟩⟩ = []) := by show _ = _; unfold colO; rw [if_neg (fun hh => h0 hh.2)]
              have d0 : decide (0 ≤ ri) = false := by simpa using h0
              have HNX2 : Hid (addAll l (oSel ⟨lk, li, ⟨lvk, lvn, lvs⟩⟩ ⟨rk, ri, ⟨rvk, rvn, rvs⟩⟩ 2) = S) := by show _ = _; rw [HNX.out, HCO.out]; rfl
              subst h1
              go_wp2_with fail
              go_roundw
              case rel => exact ⟨2, S, sa, sc, by omega, by go_num, by rw [HSN.out], HNX2.out.symm, (by rw [HSN.out]; exact HS.out.blw (by (repeat (first | exact Below.refl _ _ | assumption | refine Below.drew ?_ | refine Below.setCell ?_ (by first | omega | (simp only [World.size_alloc]; omega) | (simp; try omega)) _ | refine Below.alloc ?_ (by first | omega | (simp only [World.size_alloc]; omega) | (simp; try omega)) _)))), HW.out.trans (Below.mono (by (repeat (first | exact Below.refl _ _ | assumption | refine Below.drew ?_ | refine Below.setCell ?_ (by first | omega | (simp only [World.size_alloc]; omega) | (simp; try omega)) _ | refine Below.alloc ?_ (by first | omega | (simp only [World.size_alloc]; omega) | (simp; try omega)) _))) hwz)⟩
              case measure => simp [intOf]
          · have HCO : Hid (colO ⟨rk, ri, ⟨rvk, rvn, rvs⟩⟩ = []) := by show _ = _; unfold colO; rw [if_neg (fun hh => h1 hh.1)]
            have d1 : (rk == 1) = false := by simpa using h1
            have HNX2 : Hid (addAll l (oSel ⟨lk, li, ⟨lvk, lvn, lvs⟩⟩ ⟨rk, ri, ⟨rvk, rvn, rvs⟩⟩ 2) = S) := by show _ = _; rw [HNX.out, HCO.out]; rfl
            go_wp2_with fail
            go_roundw
            case rel => exact ⟨2, S, sa, sc, by omega, by go_num, by rw [HSN.out], HNX2.out.symm, (by rw [HSN.out]; exact HS.out.blw (by (repeat (first | exact Below.refl _ _ | assumption | refine Below.drew ?_ | refine Below.setCell ?_ (by first | omega | (simp only [World.size_alloc]; omega) | (simp; try omega)) _ | refine Below.alloc ?_ (by first | omega | (simp only [World.size_alloc]; omega) | (simp; try omega)) _)))), HW.out.trans (Below.mono (by (repeat (first | exact Below.refl _ _ | assumption | refine Below.drew ?_ | refine Below.setCell ?_ (by first | omega | (simp only [World.size_alloc]; omega) | (simp; try omega)) _ | refine Below.alloc ?_ (by first | omega | (simp only [World.size_alloc]; omega) | (simp; try omega)) _))) hwz)⟩
            case measure => simp [intOf]
        · have HSS : Hid (S = addAll l cn) := by show _ = _; rw [HE.out, HCN2.out]; rfl
          have HC12 := HC.out wr HQR.out
          have zw : w.heap.size < wr.heap.size := by omega
          clear c0 c1 c2 c3 c4 c5 c6 c7 c8 c9 HOC
          go_wp2_with fail
          clear HC12 zw
          go_loopw [1, 37] (fun s1 i wr => ∃ (k : Nat) (sa : Option Addr) (sc : Nat), k ≤ n ∧ i = .int .i64 k ∧ s1 = .slice sa (addAll (addAll l cn) (colL (ps.take k))).length sc ∧ Hid (IntsAt wr (.slice sa (addAll (addAll l cn) (colL (ps.take k))).length sc) (addAll (addAll l cn) (colL (ps.take k)))) ∧ Hid (Below (w.heap.size + 1) wq wr)) (fun _ i _ => n - (intOf i).toNat)
          case atStart => exact ⟨0, sa, sc, by omega, rfl, by rw [show addAll (addAll l cn) (colL (ps.take 0)) = S from HSS.out.symm, HSN.out], (by show IntsAt _ _ _; rw [show addAll (addAll l cn) (colL (ps.take 0)) = S from HSS.out.symm, HSN.out]; exact HS.out), HQR.out⟩
          case round =>
            obtain ⟨k, sa, sc, hk, rfl, rfl, HS, HQ⟩ := hrel
            have HW : Hid (Below w.heap.size w wr) := HB.out.trans (HQ.out.mono (by omega))
            have c12 := HC.out wr HQ.out
            have zq : w.heap.size + 1 ≤ wr.heap.size := by have := HQ.out.size; omega
            have zw : w.heap.size < wr.heap.size := by omega
            obtain ⟨sn, hsn⟩ : ∃ sn, (addAll (addAll l cn) (colL (ps.take k))).length = sn := ⟨_, rfl⟩
            have HSN := Lib.hid hsn
            rw [hsn] at HS ⊢
            clear hsn
            by_cases hlt : k < n
            · have hlt' : (k : Int) < n := by omega
              have hkn : k < ps.length := by rw [HN.out]; exact hlt
              obtain ⟨b, o, a1, c1, rfl, -, hb, g0, g1, g2, g3, g4, g5, g6, g7, g8, g9, g10, g11, g12, hps⟩ := (HP.out.below HW.out).get hkn
              have HT : Hid (colL (ps.take (k + 1)) = colL (ps.take k) ++ colP ps[k]) := colL_take ps k hkn
              have hsz : (addAll (addAll l cn) (colL (ps.take k))).length + (colP ps[k]).length ≤ 1099511627776 := by
                have h1 := len_addAll (colL (ps.take k)) (addAll l cn)
                have h2 := len_addAll cn l
                have h3 := colL_take_le ps (k + 1)
                rw [HT.out, List.length_append] at h3
                rw [HLM.out] at h2
                omega
              have HH : Hid (∀ W, Below wr.heap.size wr W → Calls Try.prog 47 #[.agg #[.int .i64 ps[k].op, .int .i64 ps[k].cmp, .int .i64 ps[k].l.k, .int .i64 ps[k].l.i, .int .i64 ps[k].l.v.k, .int .i64 ps[k].l.v.n, .string ps[k].l.v.s, .int .i64 ps[k].r.k, .int .i64 ps[k].r.i, .int .i64 ps[k].r.v.k, .int .i64 ps[k].r.v.n, .string ps[k].r.v.s, .slice a1 ps[k].args.length c1], .slice sa sn sc] W (GathPost (addAll (addAll (addAll l cn) (colL (ps.take k))) (colP ps[k])) W)) := fun W hb => HIH.out k hkn _ _ _ W ⟨a1, c1, rfl, hps.below hb⟩ (HS.out.blw hb) hsz
              have HNX : Hid (addAll (addAll (addAll l cn) (colL (ps.take k))) (colP ps[k]) = addAll (addAll l cn) (colL (ps.take (k + 1)))) := by show _ = _; rw [HT.out, addAll_app]
              rw [HNX.out] at HH
              clear hps hsz HT HNX
              generalize ps[k].op = eop at *
              generalize ps[k].cmp = ecmp at *
              generalize ps[k].l.k = elk at *
              generalize ps[k].l.i = eli at *
              generalize ps[k].l.v.k = elvk at *
              generalize ps[k].l.v.n = elvn at *
              generalize ps[k].l.v.s = elvs at *
              generalize ps[k].r.k = erk at *
              generalize ps[k].r.i = eri at *
              generalize ps[k].r.v.k = ervk at *
              generalize ps[k].r.v.n = ervn at *
              generalize ps[k].r.v.s = ervs at *
              generalize ps[k].args.length = en at *
              go_wp2_with fail
              refine (HH.out _ (by (repeat (first | exact Below.refl _ _ | assumption | refine Below.drew ?_ | refine Below.setCell ?_ (by first | omega | (simp only [World.size_alloc]; omega) | (simp; try omega)) _ | refine Below.alloc ?_ (by first | omega | (simp only [World.size_alloc]; omega) | (simp; try omega)) _)))).mono ?_
              rintro e w5 ⟨ta, tc, rfl, hti, hb5⟩
              have B5 : Hid (Below wr.heap.size wr w5) := Below.trans (by (repeat (first | exact Below.refl _ _ | assumption | refine Below.drew ?_ | refine Below.setCell ?_ (by first | omega | (simp only [World.size_alloc]; omega) | (simp; try omega)) _ | refine Below.alloc ?_ (by first | omega | (simp only [World.size_alloc]; omega) | (simp; try omega)) _))) (hb5.mono (by first | omega | (simp only [World.size_alloc]; omega) | (simp; done) | (simp; omega)))
              have HTI := Lib.hid hti
              clear hb5 hti g0 g1 g2 g3 g4 g5 g6 g7 g8 g9 g10 g11 g12 HS
              go_wp2_with fail
              go_roundw
              case rel => first | exact ⟨k + 1, ta, tc, by omega, by go_num, rfl, HTI, HQ.out.trans (B5.out.mono zq)⟩ | ((repeat apply Exists.intro); exact ⟨⟨k + 1, ta, tc, by omega, by go_num, rfl, HTI, HQ.out.trans (B5.out.mono zq)⟩, rfl⟩)
              case measure => simp [intOf]; omega
            · have hkn : k = n := by omega
              have HRES : Hid (addAll (addAll l cn) (colL (ps.take k)) = addAll l (cn ++ colL ps)) := by show _ = _; rw [List.take_of_length_le (by rw [HN.out]; omega), addAll_app]
              have HS2 : Hid (GathPost (addAll l (cn ++ colL ps)) w (.returned (.slice sa sn sc)) wr) := by
                have h1 := HS.out
                have h2 := HSN.out
                rw [HRES.out] at h1 h2
                subst h2
                exact ⟨sa, sc, rfl, h1, HW.out⟩
              clear HS
              go_wp2_with fail
              go_ret
              exact HS2.out
    · have HCN3 : Hid (cn = []) := by show _ = _; rw [← HCN.out]; exact if_neg h3
      have b3 : (op == 3) = false := by simpa using h3
      obtain ⟨wq, hwq⟩ : ∃ wq, w.alloc (.cells #[.int .i64 op, .int .i64 cmp, .int .i64 lk, .int .i64 li, .int .i64 lvk, .int .i64 lvn, .string lvs, .int .i64 rk, .int .i64 ri, .int .i64 rvk, .int .i64 rvn, .string rvs, .slice a n c] 29) = wq := ⟨_, rfl⟩
      have HB : Hid (Below w.heap.size w wq) := by rw [← hwq]; exact (Below.refl _ _).alloc (Nat.le_refl _) _
      have d0 : wq.cell? ⟨w.heap.size, 0, none⟩ = some (.int .i64 op) := by subst hwq; go_simp
      have d1 : wq.cell? ⟨w.heap.size, 1, none⟩ = some (.int .i64 cmp) := by subst hwq; go_simp
      have d2 : wq.cell? ⟨w.heap.size, 2, none⟩ = some (.int .i64 lk) := by subst hwq; go_simp
      have d3 : wq.cell? ⟨w.heap.size, 3, none⟩ = some (.int .i64 li) := by subst hwq; go_simp
      have d4 : wq.cell? ⟨w.heap.size, 4, none⟩ = some (.int .i64 lvk) := by subst hwq; go_simp
      have d5 : wq.cell? ⟨w.heap.size, 5, none⟩ = some (.int .i64 lvn) := by subst hwq; go_simp
      have d6 : wq.cell? ⟨w.heap.size, 6, none⟩ = some (.string lvs) := by subst hwq; go_simp
      have d7 : wq.cell? ⟨w.heap.size, 7, none⟩ = some (.int .i64 rk) := by subst hwq; go_simp
      have d8 : wq.cell? ⟨w.heap.size, 8, none⟩ = some (.int .i64 ri) := by subst hwq; go_simp
      have d9 : wq.cell? ⟨w.heap.size, 9, none⟩ = some (.int .i64 rvk) := by subst hwq; go_simp
      have d10 : wq.cell? ⟨w.heap.size, 10, none⟩ = some (.int .i64 rvn) := by subst hwq; go_simp
      have d11 : wq.cell? ⟨w.heap.size, 11, none⟩ = some (.string rvs) := by subst hwq; go_simp
      have d12 : wq.cell? ⟨w.heap.size, 12, none⟩ = some (.slice a n c) := by subst hwq; go_simp
      have HZQ : Hid (wq.heap.size = w.heap.size + 1) := by show _ = _; rw [← hwq]; simp
      have hzq1 : wq.heap.size ≤ w.heap.size + 1 := by rw [HZQ.out]; exact Nat.le_refl _
      have hzq2 : w.heap.size + 1 ≤ wq.heap.size := by rw [HZQ.out]; exact Nat.le_refl _
      have HC : Hid (∀ W, Below (w.heap.size + 1) wq W → W.cell? ⟨w.heap.size, 12, none⟩ = some (.slice a n c)) := fun W hb => (hb.cell (p := ⟨w.heap.size, 12, none⟩) (show w.heap.size < _ by omega)).trans d12
      have HLQ : Hid (IntsAt wq (.slice la lm lc) l) := HLV.out.blw HB.out
      go_enter Try.func47, Try.ntmps47
      go_wp2_with fail
      try rw [hwq]
      clear hwq HLV d0 d1 d2 d3 d4 d5 d6 d7 d8 d9 d10 d11 d12
      go_loopw [1, 37] (fun s1 i wr => ∃ (k : Nat) (sa : Option Addr) (sc : Nat), k ≤ n ∧ i = .int .i64 k ∧ s1 = .slice sa (addAll (addAll l cn) (colL (ps.take k))).length sc ∧ Hid (IntsAt wr (.slice sa (addAll (addAll l cn) (colL (ps.take k))).length sc) (addAll (addAll l cn) (colL (ps.take k)))) ∧ Hid (Below (w.heap.size + 1) wq wr)) (fun _ i _ => n - (intOf i).toNat)
      case atStart => exact ⟨0, la, lc, by omega, rfl, by rw [show addAll (addAll l cn) (colL (ps.take 0)) = l from (by rw [HCN3.out]; rfl), HLM.out], (by show IntsAt _ _ _; rw [show addAll (addAll l cn) (colL (ps.take 0)) = l from (by rw [HCN3.out]; rfl), HLM.out]; exact HLQ.out), (by show Below _ _ _; exact Below.refl _ _)⟩
      case round =>
        obtain ⟨k, sa, sc, hk, rfl, rfl, HS, HQ⟩ := hrel
        have HW : Hid (Below w.heap.size w wr) := HB.out.trans (HQ.out.mono (by omega))
        have c12 := HC.out wr HQ.out
        have zq : w.heap.size + 1 ≤ wr.heap.size := by have := HQ.out.size; omega
        have zw : w.heap.size < wr.heap.size := by omega
        obtain ⟨sn, hsn⟩ : ∃ sn, (addAll (addAll l cn) (colL (ps.take k))).length = sn := ⟨_, rfl⟩
        have HSN := Lib.hid hsn
        rw [hsn] at HS ⊢
        clear hsn
        by_cases hlt : k < n
        · have hlt' : (k : Int) < n := by omega
          have hkn : k < ps.length := by rw [HN.out]; exact hlt
          obtain ⟨b, o, a1, c1, rfl, -, hb, g0, g1, g2, g3, g4, g5, g6, g7, g8, g9, g10, g11, g12, hps⟩ := (HP.out.below HW.out).get hkn
          have HT : Hid (colL (ps.take (k + 1)) = colL (ps.take k) ++ colP ps[k]) := colL_take ps k hkn
          have hsz : (addAll (addAll l cn) (colL (ps.take k))).length + (colP ps[k]).length ≤ 1099511627776 := by
            have h1 := len_addAll (colL (ps.take k)) (addAll l cn)
            have h2 := len_addAll cn l
            have h3 := colL_take_le ps (k + 1)
            rw [HT.out, List.length_append] at h3
            rw [HLM.out] at h2
            omega
          have HH : Hid (∀ W, Below wr.heap.size wr W → Calls Try.prog 47 #[.agg #[.int .i64 ps[k].op, .int .i64 ps[k].cmp, .int .i64 ps[k].l.k, .int .i64 ps[k].l.i, .int .i64 ps[k].l.v.k, .int .i64 ps[k].l.v.n, .string ps[k].l.v.s, .int .i64 ps[k].r.k, .int .i64 ps[k].r.i, .int .i64 ps[k].r.v.k, .int .i64 ps[k].r.v.n, .string ps[k].r.v.s, .slice a1 ps[k].args.length c1], .slice sa sn sc] W (GathPost (addAll (addAll (addAll l cn) (colL (ps.take k))) (colP ps[k])) W)) := fun W hb => HIH.out k hkn _ _ _ W ⟨a1, c1, rfl, hps.below hb⟩ (HS.out.blw hb) hsz
          have HNX : Hid (addAll (addAll (addAll l cn) (colL (ps.take k))) (colP ps[k]) = addAll (addAll l cn) (colL (ps.take (k + 1)))) := by show _ = _; rw [HT.out, addAll_app]
          rw [HNX.out] at HH
          clear hps hsz HT HNX
          generalize ps[k].op = eop at *
          generalize ps[k].cmp = ecmp at *
          generalize ps[k].l.k = elk at *
          generalize ps[k].l.i = eli at *
          generalize ps[k].l.v.k = elvk at *
          generalize ps[k].l.v.n = elvn at *
          generalize ps[k].l.v.s = elvs at *
          generalize ps[k].r.k = erk at *
          generalize ps[k].r.i = eri at *
          generalize ps[k].r.v.k = ervk at *
          generalize ps[k].r.v.n = ervn at *
          generalize ps[k].r.v.s = ervs at *
          generalize ps[k].args.length = en at *
          go_wp2_with fail
          refine (HH.out _ (by (repeat (first | exact Below.refl _ _ | assumption | refine Below.drew ?_ | refine Below.setCell ?_ (by first | omega | (simp only [World.size_alloc]; omega) | (simp; try omega)) _ | refine Below.alloc ?_ (by first | omega | (simp only [World.size_alloc]; omega) | (simp; try omega)) _)))).mono ?_
          rintro e w5 ⟨ta, tc, rfl, hti, hb5⟩
          have B5 : Hid (Below wr.heap.size wr w5) := Below.trans (by (repeat (first | exact Below.refl _ _ | assumption | refine Below.drew ?_ | refine Below.setCell ?_ (by first | omega | (simp only [World.size_alloc]; omega) | (simp; try omega)) _ | refine Below.alloc ?_ (by first | omega | (simp only [World.size_alloc]; omega) | (simp; try omega)) _))) (hb5.mono (by first | omega | (simp only [World.size_alloc]; omega) | (simp; done) | (simp; omega)))
          have HTI := Lib.hid hti
          clear hb5 hti g0 g1 g2 g3 g4 g5 g6 g7 g8 g9 g10 g11 g12 HS
          go_wp2_with fail
          go_roundw
          case rel => first | exact ⟨k + 1, ta, tc, by omega, by go_num, rfl, HTI, HQ.out.trans (B5.out.mono zq)⟩ | ((repeat apply Exists.intro); exact ⟨⟨k + 1, ta, tc, by omega, by go_num, rfl, HTI, HQ.out.trans (B5.out.mono zq)⟩, rfl⟩)
          case measure => simp [intOf]; omega
        · have hkn : k = n := by omega
          have HRES : Hid (addAll (addAll l cn) (colL (ps.take k)) = addAll l (cn ++ colL ps)) := by show _ = _; rw [List.take_of_length_le (by rw [HN.out]; omega), addAll_app]
          have HS2 : Hid (GathPost (addAll l (cn ++ colL ps)) w (.returned (.slice sa sn sc)) wr) := by
            have h1 := HS.out
            have h2 := HSN.out
            rw [HRES.out] at h1 h2
            subst h2
            exact ⟨sa, sc, rfl, h1, HW.out⟩
          clear HS
          go_wp2_with fail
          go_ret
          exact HS2.out

set_option maxHeartbeats 1000000 in
theorem rColumns_any (p : PT) (v : Value) (w : World) (h : Pd w v p) (hl : (colP p).length ≤ 1099511627776) : Calls Try.prog 14 #[v] w (GathPost (colsP p) w) := by
  have HG : Hid (∀ W, Below w.heap.size w W → Calls Try.prog 47 #[v, .slice none 0 0] W (GathPost (addAll [] (colP p)) W)) := fun W hb => rGather_any p.depth p (Nat.le_refl _) [] v _ W (h.below hb) (IntsAt.nil _) (by simpa using hl)
  rw [show addAll [] (colP p) = colsP p from addAll_sort _] at HG
  obtain ⟨op, cmp, lk, li, lvk, lvn, lvs, rk, ri, rvk, rvn, rvs, ps, a, c, rfl, rfl, hp⟩ := pd_fields h
  generalize colsP _ = R at *
  generalize ps.length = n at *
  clear hp h hl
  go_enter Try.func14, Try.ntmps14
  go_wp2_with fail
  refine (HG.out _ (by (repeat (first | exact Below.refl _ _ | assumption | refine Below.drew ?_ | refine Below.setCell ?_ (by first | omega | (simp only [World.size_alloc]; omega) | (simp; try omega)) _ | refine Below.alloc ?_ (by first | omega | (simp only [World.size_alloc]; omega) | (simp; try omega)) _)))).mono ?_
  rintro e w1 ⟨ta, tc, rfl, hti, hb⟩
  have HT : Hid (GathPost R w (.returned (.slice ta R.length tc)) w1) := ⟨ta, tc, rfl, hti, Below.trans (by (repeat (first | exact Below.refl _ _ | assumption | refine Below.drew ?_ | refine Below.setCell ?_ (by first | omega | (simp only [World.size_alloc]; omega) | (simp; try omega)) _ | refine Below.alloc ?_ (by first | omega | (simp only [World.size_alloc]; omega) | (simp; try omega)) _))) (hb.mono (by first | omega | (simp only [World.size_alloc]; omega) | (simp; done) | (simp; omega)))⟩
  clear hti hb HG
  go_wp2_with fail
  go_ret
  exact HT.out
end Go.Proofs.Ytjkjmkplcjfogaa
