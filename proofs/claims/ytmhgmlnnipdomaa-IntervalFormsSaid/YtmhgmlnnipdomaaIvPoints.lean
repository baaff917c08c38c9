
/- The reference's Points of two lists. -/
import Derived.Test.YtmhgmlnnipdomaaIvJoin

import Derived.Test.YtmhgmlnnipdomaaRSet

namespace Go.Proofs.Ytmhgmlnnipdomaa

open Go.RowKit Go.Deep

/-- The ends of a list, in its order. -/
def ptsI (x : IV) : List V := if x.o then [x.f] else [x.f, x.t]
def ptsL (L : List IV) : List V := L.flatMap ptsI
theorem ptsL_snoc (L : List IV) (x : IV) : ptsL (L ++ [x]) = ptsL L ++ ptsI x := by simp [ptsL]
theorem ptsI_le (x : IV) : (ptsI x).length ≤ 2 := by unfold ptsI; split <;> simp
theorem ptsL_le : ∀ L : List IV, (ptsL L).length ≤ 2 * L.length
  | [] => by simp [ptsL]
  | x :: L => by have := ptsL_le L; have := ptsI_le x; simp only [ptsL, List.flatMap_cons, List.length_append, List.length_cons] at *; omega
theorem ptsL_take (L : List IV) (k : Nat) (h : k < L.length) : ptsL (L.take (k + 1)) = ptsL (L.take k) ++ ptsI L[k] := by
  rw [List.take_add_one, List.getElem?_eq_getElem h]
  exact ptsL_snoc _ _

/-- A row of one value in a new block. -/
theorem row_one (w : World) (k n : Int) (s : ByteArray) : RowT w.heap.size (w.alloc (.cells #[.int .i64 k, .int .i64 n, .string s] 25)) (.slice (some ⟨w.heap.size, 0, none⟩) 1 1) [⟨k, n, s⟩] := by
  refine ⟨_, 1, rfl, by simp, fun i hi => ⟨w.heap.size, 0, #[.int .i64 k, .int .i64 n, .string s], (0, 0), rfl, Nat.le_refl _, heap_alloc_new w _, ?_⟩⟩
  simp only [List.length_singleton] at hi
  obtain rfl : i = 0 := by omega
  exact ⟨World.cell?_alloc_mark w #[.int .i64 k, .int .i64 n, .string s] 25 (0, 0) 0, World.cell?_alloc_mark w #[.int .i64 k, .int .i64 n, .string s] 25 (0, 0) 1, World.cell?_alloc_mark w #[.int .i64 k, .int .i64 n, .string s] 25 (0, 0) 2⟩

/-- What the gathering knows: the rows so far are the points ps. -/
structure GInv (w0 : World) (v : Value) (ps : List V) (w : World) (L : List E) : Prop where
  k : KInv w0.heap.size w0 v L w
  e : L.map (·.2) = ps.map (fun p => [p])
theorem GInv.len {w0 : World} {v : Value} {ps : List V} {w : World} {L : List E} (h : GInv w0 v ps w L) : L.length = ps.length := by have := congrArg List.length h.e; simpa using this
/-- One point more. -/
theorem GInv.app {w0 : World} {v v' : Value} {ps : List V} {w w' : World} {L : List E} {O : Obj} (h : GInv w0 v ps w L) (k n : Int) (s : ByteArray) (z : Nat) (hz : w.heap.size = z)
    (ho : w'.ownsRow w0.heap.size 83 1 v' (L.length + 1) (L.map (·.1) ++ [.slice (some ⟨z, 0, none⟩) 1 1])) (hg : ((w.alloc (.cells #[.int .i64 k, .int .i64 n, .string s] 25)).alloc O).grownBy w' v.ownBlock) :
    GInv w0 v' (ps ++ [⟨k, n, s⟩]) w' (L ++ [(.slice (some ⟨z, 0, none⟩) 1 1, [⟨k, n, s⟩])]) := by
  subst hz
  have hs := h.k.below.size
  have h1 : KInv w0.heap.size w0 v L (w.alloc (.cells #[.int .i64 k, .int .i64 n, .string s] 25)) := h.k.step ((Below.refl _ _).alloc (Nat.le_refl _) _) hs
  have h2 := h1.app (x := (.slice (some ⟨w.heap.size, 0, none⟩) 1 1, [⟨k, n, s⟩])) ((row_one w k n s).lo hs) (by simp only [World.size_alloc]; omega) ho hg
  exact ⟨h2, by rw [List.map_append, List.map_append, h.e]; rfl⟩
/-- A new block stays when the gathering appends. -/
theorem GInv.cell {w0 : World} {v : Value} {ps : List V} {w W w' : World} {L : List E} (h : GInv w0 v ps w L) (hg : W.grownBy w' v.ownBlock) (b : Nat) (hb : w.heap.size ≤ b) (hW : b < W.heap.size) (o : Nat) : w'.cell? ⟨b, o, none⟩ = W.cell? ⟨b, o, none⟩ :=
  grown_cell hg (fun e => by have := (h.k.own.lt b e).2; omega) hW o
theorem GInv.below {w0 : World} {v : Value} {ps : List V} {w w' : World} {L : List E} (h : GInv w0 v ps w L) (hb : Below w.heap.size w w') : GInv w0 v ps w' L := ⟨h.k.step hb h.k.below.size, h.e⟩

theorem ones (P : List V) : ∀ R : List (List V), (∀ r ∈ R, r ∈ P.map (fun p => [p])) → ∃ ps : List V, R = ps.map (fun p => [p])
  | [], _ => ⟨[], rfl⟩
  | r :: R, h => by
    obtain ⟨ps, hps⟩ := ones P R (fun x hx => h x (by simp [hx]))
    have := h r (by simp)
    rw [List.mem_map] at this
    obtain ⟨p, -, rfl⟩ := this
    exact ⟨p :: ps, by rw [hps]; rfl⟩
theorem three_cells (w : World) (k n : Int) (s : ByteArray) (t : TypeId) : ∀ (j : Nat) (u : Value), ([.int .i64 k, .int .i64 n, .string s] : List Value)[j]? = some u → (w.alloc (.cells #[.int .i64 k, .int .i64 n, .string s] t)).cell? ((⟨w.heap.size, 0, none⟩ : Addr).add j) = some u := by
  intro j u hj
  have ha : (⟨w.heap.size, 0, none⟩ : Addr).add j = ⟨w.heap.size, j, none⟩ := by unfold Addr.add; split <;> simp_all
  rw [ha]
  exact (World.cell?_alloc_mark w #[.int .i64 k, .int .i64 n, .string s] t (0, 0) j).trans (by simpa using hj)

/-- A list's ends, gathered: the loop over one list. -/
def PointsPost (A B : List IV) (w : World) (e : Ending) (w' : World) : Prop :=
  ∃ v ps, e = .returned v ∧ RowT w.heap.size w' v ps ∧ ps.Pairwise (fun a b => cmpV a b < 0) ∧ (∀ p, p ∈ ps ↔ p ∈ ptsL A ++ ptsL B) ∧ ps.length ≤ 2 * (A.length + B.length) ∧ Below w.heap.size w w'

theorem cmpRows_one (a b : V) : cmpRows [a] [b] = cmpV a b := by
  simp only [cmpRows]
  by_cases h : a = b
  · subst h; simp [cmpV_self]
  · simp [h]

set_option maxRecDepth 100000 in
set_option maxHeartbeats 4000000 in
theorem rPoints_any (bl : Nat) (va vb : Value) (A B : List IV) (w : World) (ha : Ivs w va A) (hb : Ivs w vb B) (hbl : bl < w.heap.size) (h0 : w.cell? ⟨bl, 0, none⟩ = some va) (h1 : w.cell? ⟨bl, 1, none⟩ = some vb) (la : A.length ≤ 1000) (lb : B.length ≤ 1000) :
    Calls Try.prog 61 #[.slice (some ⟨bl, 0, none⟩) 2 2] w (PointsPost A B w) := by
  have hinfo : (Try.prog.info? 83).map (fun i => (i.zero, i.size, i.bytes)) = some (some (.slice none 0 0), 1, 24) := by kernel_rfl
  obtain ⟨i0, hi, hz0, hz1, hz2⟩ := info_parts hinfo
  have HI := Lib.hid hi
  have HZ0 := Lib.hid hz0
  have HZ1 := Lib.hid hz1
  have HZ2 := Lib.hid hz2
  have hinfo2 : (Try.prog.info? 25).map (fun i => (i.zero, i.size, i.bytes)) = some (some (.agg #[.int .i64 0, .int .i64 0, .string ⟨#[]⟩]), 3, 32) := by kernel_rfl
  obtain ⟨j0, hj, hy0, hy1, hy2⟩ := info_parts hinfo2
  have HJ := Lib.hid hj
  have HY0 := Lib.hid hy0
  have HY1 := Lib.hid hy1
  have HY2 := Lib.hid hy2
  have HIN : Hid (∀ t, t < 2 → ∃ vc C, w.cell? ⟨bl, t, none⟩ = some vc ∧ Ivs w vc C ∧ C.length ≤ 1000 ∧ (if t = 0 then ([] : List V) else ptsL A) ++ ptsL C = (if t + 1 = 1 then ptsL A else ptsL A ++ ptsL B)) := fun t ht => by
    have hc : t = 0 ∨ t = 1 := by omega
    rcases hc with rfl | rfl
    · exact ⟨va, A, h0, ha, la, by simp⟩
    · exact ⟨vb, B, h1, hb, lb, by simp⟩
  have HLN : Hid (A.length ≤ 1000 ∧ B.length ≤ 1000) := ⟨la, lb⟩
  clear hi hz0 hz1 hz2 hinfo hj hy0 hy1 hy2 hinfo2 ha hb h0 h1 la lb
  go_enter Try.func61, Try.ntmps61
  go_wp2_with fail
  go_loopw [3, 13] (fun v i wr => ∃ t : Nat, t ≤ 2 ∧ i = .int .i64 t ∧ Hid (∃ L, GInv w v (if t = 0 then [] else if t = 1 then ptsL A else ptsL A ++ ptsL B) wr L ∧ L.length ≤ 2000 * t)) (fun _ i _ => 2 - (intOf i).toNat)
  case atStart => exact ⟨0, by omega, rfl, [], ⟨⟨⟨by simp, .inl ⟨rfl, rfl⟩⟩, fun x hx => by simp at hx, Below.refl _ _⟩, rfl⟩, by simp⟩
  case round =>
    obtain ⟨t, ht, rfl, HG⟩ := hrel
    obtain ⟨LE, hG, hLE⟩ := HG.out
    obtain ⟨rva, rvc, rfl⟩ := own_slice hG.k.own
    by_cases htt : t < 2
    · have htt' : (t : Int) < 2 := by omega
      obtain ⟨vc, C, hcell, hC, hCl, hup⟩ := HIN.out t htt
      have hblw : bl < wr.heap.size := Nat.lt_of_lt_of_le hbl hG.k.below.size
      have p0 : wr.cell? ⟨bl, t, none⟩ = some vc := (hG.k.below.cell (p := ⟨bl, t, none⟩) hbl).trans hcell
      obtain ⟨ca, cc, rfl, hc1, hc2, hc3, hc4, hci⟩ := hC
      obtain ⟨nc, hnc⟩ : ∃ n, C.length = n := ⟨_, rfl⟩
      rw [hnc] at p0 hc1 hCl
      have HCI := Lib.hid hci
      have HNC := Lib.hid hnc
      obtain ⟨pre, hpre⟩ : ∃ pre : List V, (if t = 0 then ([] : List V) else ptsL A) = pre := ⟨_, rfl⟩
      have hpre2 : (if t = 0 then ([] : List V) else if t = 1 then ptsL A else ptsL A ++ ptsL B) = pre := by
        have hc : t = 0 ∨ t = 1 := by omega
        rcases hc with rfl | rfl <;> simpa using hpre
      rw [hpre2] at hG
      have HG0 := Lib.hid hG
      have HUP : Hid (pre ++ ptsL C = (if t + 1 = 0 then [] else if t + 1 = 1 then ptsL A else ptsL A ++ ptsL B)) := by rw [← hpre]; show _ = _; rw [hup]; simp
      clear hG hci hnc hcell hup hpre hpre2 HG hc3 hc4
      go_wp2_with fail
      go_loopw [3, 19] (fun v i ws => ∃ k : Nat, k ≤ nc ∧ i = .int .i64 k ∧ Hid (∃ L, GInv w v (pre ++ ptsL (C.take k)) ws L ∧ L.length ≤ LE.length + 2 * k)) (fun _ i _ => nc - (intOf i).toNat)
      case atStart => exact ⟨0, by omega, rfl, LE, by simpa [ptsL] using HG0.out, by omega⟩
      case round =>
        obtain ⟨k, hk, rfl, HGk⟩ := hrel
        obtain ⟨LK, hGk, hLK⟩ := HGk.out
        obtain ⟨rka, rkc, rfl⟩ := own_slice hGk.k.own
        by_cases hlt : k < nc
        · have hkC : k < C.length := by rw [HNC.out]; exact hlt
          have hlt' : (k : Int) < nc := by omega
          obtain ⟨b, off, rfl, -, hb', hc⟩ := HCI.out k hkC
          have HPT : Hid (ptsL (C.take (k + 1)) = ptsL (C.take k) ++ ptsI C[k]) := ptsL_take C k hkC
          have hx0 := hc.same (hGk.k.below.block b hb')
          generalize C[k] = x at hx0 HPT
          obtain ⟨⟨fk, fn, fs⟩, ⟨tk, tn, ts⟩, xo⟩ := x
          obtain ⟨⟨q0, q1, q2⟩, ⟨q3, q4, q5⟩, q6⟩ := hx0
          simp only at q0 q1 q2 q3 q4 q5 q6
          have HGK := Lib.hid hGk
          have hll : LK.length ≤ 4000 := by omega
          clear hGk hc HG0 p0 hLE
          have hwz : w.heap.size ≤ wr.heap.size := HGK.out.k.below.size
          have A1 : Hid (LK.length + 1 ≤ maxLen) := by show _ ≤ _; unfold maxLen; omega
          have A2 : Hid ((LK.length + 1) * 24 ≤ 140737488355328) := by show _ ≤ _; omega
          have A3 : Hid (∀ c7 c3 O : Obj, w.heap.size ≤ (((wr.alloc c7).alloc c3).alloc O).heap.size) := fun _ _ _ => by simp only [World.size_alloc]; omega
          have A7 : Hid (∀ c7 c3 O : Obj, wr.heap.size < (((wr.alloc c7).alloc c3).alloc O).heap.size) := fun _ _ _ => by simp only [World.size_alloc]; omega
          have A8 : Hid (∀ (cs : Array Value) (ty : TypeId) (c3 O : Obj) (o : Nat), (((wr.alloc (.cells cs ty)).alloc c3).alloc O).cell? ⟨wr.heap.size, o, none⟩ = cs[o]?) := fun cs ty c3 O o => ((((Below.refl _ _).alloc (Nat.le_refl _) c3).alloc (by simp) O).cell (w := wr.alloc (.cells cs ty)) (p := ⟨wr.heap.size, o, none⟩) (by simp)).trans (World.cell?_alloc_mark wr cs ty (0, 0) o)
          have A4 : Hid (∀ c7 c3 t (j : Nat) (u : Value), ([.slice (some ⟨wr.heap.size + 1, 0, none⟩) 1 1] : List Value)[j]? = some u → (((wr.alloc c7).alloc c3).alloc (.cells #[.slice (some ⟨wr.heap.size + 1, 0, none⟩) 1 1] t)).cell? ((⟨wr.heap.size + 1 + 1, 0, none⟩ : Addr).add j) = some u) := fun c7 c3 t j u hj => by
            have := one_cell ((wr.alloc c7).alloc c3) (.slice (some ⟨wr.heap.size + 1, 0, none⟩) 1 1) t j u hj
            simpa only [World.size_alloc] using this
          have A5 : Hid (∀ u ∈ ([.slice (some ⟨wr.heap.size + 1, 0, none⟩) 1 1] : List Value), u.oneCell' = true) := by intro u hu; simp only [List.mem_singleton] at hu; subst hu; rfl
          cases xo with
          | true =>
            have hpt : ptsI ⟨⟨fk, fn, fs⟩, ⟨tk, tn, ts⟩, true⟩ = [⟨fk, fn, fs⟩] := rfl
            rw [hpt] at HPT
            have HG7 := Lib.hid (HGK.out.below (w' := wr.alloc (.cells #[.int .i64 fk, .int .i64 fn, .string fs, .int .i64 tk, .int .i64 tn, .string ts, .bool true] 59)) ((Below.refl _ _).alloc (Nat.le_refl _) _))
            clear hpt
            go_wp2_with (at_builtin; refine wpList_append_own _ (by rfl) _ _ 82 (by rfl) w.heap.size 83 i0 (.slice none 0 0) 1 24 Try.underlying82 HI.out HZ0.out HZ1.out HZ2.out rfl (by decide) (.slice rka LK.length rkc) LK.length (LK.map (·.1)) (by rfl) (((HGK.out.k.own.alloc _).alloc _).alloc _) ⟨wr.heap.size + 1 + 1, 0, none⟩ 1 1 [.slice (some ⟨wr.heap.size + 1, 0, none⟩) 1 1] (by rfl) (by rfl) (A4.out _ _ _) A5.out A1.out A2.out (A3.out _ _ _) ?_; intro v' w3 hown2 hgr _; have HOWN := Lib.hid hown2; have HGR := Lib.hid hgr; have r6 : w3.cell? ⟨wr.heap.size, 6, none⟩ = some (.bool true) := (HGK.out.cell hgr wr.heap.size (Nat.le_refl _) (A7.out _ _ _) 6).trans (A8.out _ _ _ _ 6); clear hown2 hgr)
            have HG2 := Lib.hid (HG7.out.app fk fn fs (wr.heap.size + 1) (by simp only [World.size_alloc]) HOWN.out HGR.out)
            go_roundw
            case measure => simp [intOf]; omega
            case rel => exact ⟨k + 1, by omega, by go_num, _, by rw [HPT.out, ← List.append_assoc]; exact HG2.out, by simp; omega⟩
          | false =>
            have hpt : ptsI ⟨⟨fk, fn, fs⟩, ⟨tk, tn, ts⟩, false⟩ = [⟨fk, fn, fs⟩] ++ [⟨tk, tn, ts⟩] := rfl
            rw [hpt] at HPT
            have HG7 := Lib.hid (HGK.out.below (w' := wr.alloc (.cells #[.int .i64 fk, .int .i64 fn, .string fs, .int .i64 tk, .int .i64 tn, .string ts, .bool false] 59)) ((Below.refl _ _).alloc (Nat.le_refl _) _))
            have B1 : Hid (LK.length + 1 + 1 ≤ maxLen) := by show _ ≤ _; unfold maxLen; omega
            have B2 : Hid ((LK.length + 1 + 1) * 24 ≤ 140737488355328) := by show _ ≤ _; omega
            clear hpt
            go_wp2_with (first | (at_builtin; refine wpList_append_own _ (by rfl) _ _ 82 (by rfl) w.heap.size 83 i0 (.slice none 0 0) 1 24 Try.underlying82 HI.out HZ0.out HZ1.out HZ2.out rfl (by decide) (.slice rka LK.length rkc) LK.length (LK.map (·.1)) (by rfl) (((HGK.out.k.own.alloc _).alloc _).alloc _) ⟨wr.heap.size + 1 + 1, 0, none⟩ 1 1 [.slice (some ⟨wr.heap.size + 1, 0, none⟩) 1 1] (by rfl) (by rfl) (A4.out _ _ _) A5.out A1.out A2.out (A3.out _ _ _) ?_; intro v' w3 hown2 hgr _; have HOWN := Lib.hid hown2; have HGR := Lib.hid hgr; have r := fun o => (HGK.out.cell hgr wr.heap.size (Nat.le_refl _) (A7.out _ _ _) o).trans (A8.out _ _ _ _ o); have r3 : w3.cell? ⟨wr.heap.size, 3, none⟩ = some (.int .i64 tk) := r 3; have r4 : w3.cell? ⟨wr.heap.size, 4, none⟩ = some (.int .i64 tn) := r 4; have r5 : w3.cell? ⟨wr.heap.size, 5, none⟩ = some (.string ts) := r 5; have r6 : w3.cell? ⟨wr.heap.size, 6, none⟩ = some (.bool false) := r 6; clear r; have HG2 := Lib.hid (HG7.out.app fk fn fs (wr.heap.size + 1) (by simp only [World.size_alloc]) hown2 hgr); obtain ⟨xa, xc, hxv⟩ := own_slice hown2; subst hxv; clear hown2 hgr HGR; have hw3 : w.heap.size ≤ w3.heap.size := HG2.out.k.below.size; have C3 : Hid (∀ c3 O : Obj, w.heap.size ≤ ((w3.alloc c3).alloc O).heap.size) := (fun _ _ => by simp only [World.size_alloc]; omega); have C4 : Hid (∀ c3 t (j : Nat) (u : Value), ([.slice (some ⟨w3.heap.size, 0, none⟩) 1 1] : List Value)[j]? = some u → ((w3.alloc c3).alloc (.cells #[.slice (some ⟨w3.heap.size, 0, none⟩) 1 1] t)).cell? ((⟨w3.heap.size + 1, 0, none⟩ : Addr).add j) = some u) := (fun c3 t j u hj => by have := one_cell (w3.alloc c3) (.slice (some ⟨w3.heap.size, 0, none⟩) 1 1) t j u hj; simpa only [World.size_alloc] using this); have C5 : Hid (∀ u ∈ ([.slice (some ⟨w3.heap.size, 0, none⟩) 1 1] : List Value), u.oneCell' = true) := (by intro u hu; simp only [List.mem_singleton] at hu; subst hu; rfl)) | (at_builtin; refine wpList_append_own _ (by rfl) _ _ 82 (by rfl) w.heap.size 83 i0 (.slice none 0 0) 1 24 Try.underlying82 HI.out HZ0.out HZ1.out HZ2.out rfl (by decide) (.slice xa (LK.length + 1) xc) (LK.length + 1) (LK.map (·.1) ++ [.slice (some ⟨wr.heap.size + 1, 0, none⟩) 1 1]) (by rfl) ((HOWN.out.alloc _).alloc _) ⟨w3.heap.size + 1, 0, none⟩ 1 1 [.slice (some ⟨w3.heap.size, 0, none⟩) 1 1] (by rfl) (by rfl) (C4.out _ _) C5.out B1.out B2.out (C3.out _ _) ?_; intro v4 w4 hown4 hgr4 _; have HG4 := Lib.hid (HG2.out.app tk tn ts w3.heap.size rfl (by rw [List.length_append, List.map_append]; exact hown4) hgr4); clear hown4 hgr4))
            go_roundw
            case measure => simp [intOf]; omega
            case rel => exact ⟨k + 1, by omega, by go_num, _, by rw [HPT.out, ← List.append_assoc, ← List.append_assoc]; exact HG4.out, by simp; omega⟩
        · obtain rfl : k = nc := by omega
          go_wp2_with fail
          go_roundw
          case measure => simp [intOf]; omega
          case rel => exact ⟨t + 1, by omega, by go_num, LK, by have := hGk; rw [List.take_of_length_le (by rw [HNC.out]; exact Nat.le_refl _), HUP.out] at this; exact this, by omega⟩
    · obtain rfl : t = 2 := by omega
      have hG2 : GInv w (.slice rva LE.length rvc) (ptsL A ++ ptsL B) wr LE := hG
      have HG2 := Lib.hid hG2
      have HBW : Hid (Below w.heap.size w wr) := hG2.k.below
      have HLE : Hid (LE.length = (ptsL A ++ ptsL B).length) := hG2.len
      have HEE : Hid (LE.map (·.2) = (ptsL A ++ ptsL B).map (fun p => [p])) := hG2.e
      have HS := Lib.hid (rSet_any _ LE wr (rowsC_own hG2.k.own (fun x hx => (hG2.k.rows x hx).rowB) (by omega)))
      clear hG hG2 HG HIN HG2
      go_wp2_with fail
      refine HS.out.mono ?_
      rintro e wz ⟨sv, ys, rfl, hrb, hrel, hmem, hlen, hbz⟩
      have HBZ : Hid (Below w.heap.size w wz) := HBW.out.trans (hbz.mono HBW.out.size)
      have hwz : w.heap.size ≤ wz.heap.size := HBZ.out.size
      obtain ⟨ps, hps⟩ := ones (ptsL A ++ ptsL B) (ys.map (·.2)) (fun r hr => by rw [← HEE.out]; exact (hmem r).1 hr)
      have hpl : ps.length = ys.length := by have := congrArg List.length hps; simpa using this.symm
      have HFIN : Hid (ps.Pairwise (fun a b => cmpV a b < 0) ∧ (∀ p, p ∈ ps ↔ p ∈ ptsL A ++ ptsL B) ∧ ps.length ≤ 2 * (A.length + B.length)) := by
        refine ⟨?_, fun p => ?_, ?_⟩
        · unfold Rel at hrel
          rw [hps, List.pairwise_map] at hrel
          exact hrel.imp (fun {a b} h => by rw [cmpRows_one] at h; exact h)
        · have h1 := hmem [p]
          rw [hps, HEE.out] at h1
          simpa using h1
        · have h1 := ptsL_le A
          have h2 := ptsL_le B
          have h3 := HLE.out
          rw [List.length_append] at h3
          omega
      obtain ⟨sa, sc, rfl, hyn, hxr, hxi⟩ := hrb
      obtain ⟨n, hn⟩ : ∃ n, ys.length = n := ⟨_, rfl⟩
      have hn4 : n ≤ 4000 := by omega
      rw [hn]
      have HXR := Lib.hid hxr
      have HXI := Lib.hid hxi
      have HPS := Lib.hid hps
      have HN := Lib.hid hn
      have HPN : Hid (ps.length = n) := hpl.trans hn
      clear hxr hxi hps hrel hmem hbz hpl hlen hyn hn HS HEE HLE HBW hLE
      go_wp2_with fail
      go_loopw [8, 43] (fun v i ws => ∃ k : Nat, k ≤ n ∧ i = .int .i64 k ∧ Hid (ws.ownsRow wz.heap.size 25 3 v k (cellsOf (ps.take k)) ∧ Below wz.heap.size wz ws)) (fun _ i _ => n - (intOf i).toNat)
      case atStart => exact ⟨0, by omega, rfl, ⟨by simp [cellsOf], .inl ⟨rfl, rfl⟩⟩, Below.refl _ _⟩
      case round =>
        obtain ⟨k, hk, rfl, HO⟩ := hrel
        obtain ⟨rka, rkc, rfl⟩ := own_slice HO.out.1
        by_cases hlt : k < n
        · have hlt' : (k : Int) < n := by omega
          have hkn : k < ys.length := by rw [HN.out]; exact hlt
          have hk2 : k < ps.length := by rw [HPN.out]; exact hlt
          obtain ⟨b1, o1, rfl, hb1, hc1⟩ := HXI.out k hkn
          have hr1 := HXR.out _ (List.getElem_mem hkn)
          have he : ys[k].2 = [ps[k]] := by have := congrArg (fun l => l[k]?) HPS.out; simpa [hkn, hk2] using this
          have HTK : Hid (ps.take (k + 1) = ps.take k ++ [ps[k]]) := by show _ = _; rw [List.take_add_one, List.getElem?_eq_getElem hk2]; rfl
          generalize ys[k] = p at hc1 hr1 he
          generalize ps[k] = q at he HTK
          obtain ⟨pv, pl⟩ := p
          obtain ⟨qk, qn, qs⟩ := q
          simp only at hc1 hr1 he
          subst he
          obtain ⟨pa, pc, rfl, -, hri⟩ := hr1
          obtain ⟨b2, o2, rfl, hb2, h0, h1, h2⟩ := hri 0 (by simp)
          simp only [List.length_singleton, Nat.zero_mul, Nat.add_zero, List.getElem_cons_zero] at hc1 h0 h1 h2
          have hbz := HO.out.2
          have p1 : wr.cell? ⟨b1, o1 + k, none⟩ = some (.slice (some ⟨b2, o2, none⟩) 1 pc) := (hbz.cell (p := ⟨b1, o1 + k, none⟩) hb1).trans hc1
          have p2 : wr.cell? ⟨b2, o2, none⟩ = some (.int .i64 qk) := (hbz.cell (p := ⟨b2, o2, none⟩) hb2).trans h0
          have p3 : wr.cell? ⟨b2, o2 + 1, none⟩ = some (.int .i64 qn) := (hbz.cell (p := ⟨b2, o2 + 1, none⟩) hb2).trans h1
          have p4 : wr.cell? ⟨b2, o2 + 2, none⟩ = some (.string qs) := (hbz.cell (p := ⟨b2, o2 + 2, none⟩) hb2).trans h2
          have hzr : wz.heap.size ≤ wr.heap.size := hbz.size
          have A1 : Hid (k + 1 ≤ maxLen) := by show _ ≤ _; unfold maxLen; omega
          have A2 : Hid ((k + 1) * 32 ≤ 140737488355328) := by show _ ≤ _; omega
          have A3 : Hid (∀ O : Obj, wz.heap.size ≤ (wr.alloc O).heap.size) := fun O => by simp only [World.size_alloc]; omega
          have A4 := Lib.hid (three_cells wr qk qn qs)
          have A5 : Hid (∀ u ∈ ([.int .i64 qk, .int .i64 qn, .string qs] : List Value), u.oneCell' = true) := by intro u hu; simp at hu; rcases hu with rfl | rfl | rfl <;> rfl
          have hlt0 := HO.out.1.lt
          have HLT := Lib.hid hlt0
          clear hri hc1 h0 h1 h2 hbz hlt0
          go_wp2_with (at_builtin; refine wpList_append_own _ (by rfl) _ _ 35 (by rfl) wz.heap.size 25 j0 (.agg #[.int .i64 0, .int .i64 0, .string ⟨#[]⟩]) 3 32 Try.underlying35 HJ.out HY0.out HY1.out HY2.out rfl (by decide) (.slice rka k rkc) k (cellsOf (ps.take k)) (by rfl) (HO.out.1.alloc _) ⟨wr.heap.size, 0, none⟩ 1 1 [.int .i64 qk, .int .i64 qn, .string qs] (by rfl) (by rfl) (A4.out _) A5.out A1.out A2.out (A3.out _) ?_; intro v' w3 hown2 hgr _; have HOWN := Lib.hid hown2; have HGR := Lib.hid hgr; clear hown2 hgr)
          have HB3 : Hid (Below wz.heap.size wz w3) := (HO.out.2.alloc hzr _).grown HGR.out (A3.out _) (fun kk e => (HLT.out kk e).1)
          go_roundw
          case measure => simp [intOf]; omega
          case rel => exact ⟨k + 1, by omega, by go_num, by rw [HTK.out, cellsOf_snoc]; exact HOWN.out, HB3.out⟩
        · obtain rfl : k = n := by omega
          go_wp2_with fail
          go_ret
          have ho := HO.out.1
          rw [List.take_of_length_le (by rw [HPN.out]; exact Nat.le_refl _), ← HPN.out] at ho
          refine ⟨_, ps, rfl, ?_, HFIN.out.1, HFIN.out.2.1, HFIN.out.2.2, HBZ.out.trans (HO.out.2.mono hwz)⟩
          have := (rowT_own ho (by rw [HPN.out]; omega)).lo hwz
          rw [HPN.out] at this
          exact this
end Go.Proofs.Ytmhgmlnnipdomaa
