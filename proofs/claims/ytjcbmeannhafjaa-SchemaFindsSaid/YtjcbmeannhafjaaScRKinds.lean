
/- Schemas: Kinds, KeyKinds, Key of the reference; Key of the program. -/
import Derived.Test.YtjcbmeannhafjaaScCheck

import Derived.Test.YtjcbmeannhafjaaRCopyOne

import Derived.WalkSpells

namespace Go.Proofs.Ytjcbmeannhafjaa

open Go.RowKit Go.Deep

/-- A list of ints is returned that the call owns. -/
def KndOwn (l : List Int) (w : World) (e : Ending) (w' : World) : Prop := ∃ v, e = .returned v ∧ w'.ownsRow w.heap.size 3 1 v l.length (iC l) ∧ Below w.heap.size w w' ∧ (l = [] → v = .slice none 0 0) ∧ l.length ≤ 17592186044416

set_option maxRecDepth 100000 in
set_option maxHeartbeats 2000000 in
theorem rKinds_any {P : Nat → Prop} (v : Value) (s : SC) (i : Int) (w : World) (h : Sc P w v s) : Calls Try.prog 19 #[v, .int .i64 i] w (KndOwn (kndT (tbAt s i)) w) := by
  have hinfo : (Try.prog.info? 3).map (fun i => (i.zero, i.size, i.bytes)) = some (some (.int .i64 0), 1, 8) := by kernel_rfl
  obtain ⟨i0, hi, hz0, hz1, hz2⟩ := info_parts hinfo
  have HI := Lib.hid hi
  have HZ0 := Lib.hid hz0
  have HZ1 := Lib.hid hz1
  have HZ2 := Lib.hid hz2
  obtain ⟨tv, rfl, hs⟩ := h
  obtain ⟨a, c, rfl, hf⟩ := hs.shape
  clear hi hz0 hz1 hz2 hinfo
  cases hin : inT s i with
  | false =>
    have hcs : i < 0 ∨ (s.ts.length : Int) ≤ i := by unfold inT at hin; simp at hin; omega
    rw [tbAt_out hin]
    show Calls _ _ _ _ (KndOwn [] w)
    clear hs hf hin
    generalize s.ts.length = n at *
    by_cases h0 : i < 0
    · have d1 : decide (i < 0) = true := by simpa using h0
      clear hcs
      go_enter Try.func19, Try.ntmps19
      go_wp2_with fail
      go_ret
      exact ⟨_, rfl, World.ownsRow_nil _ _ _ _, by (repeat (first | exact Below.refl _ _ | assumption | refine Below.drew ?_ | refine Below.setCell ?_ (by first | omega | (simp only [World.size_alloc]; omega) | (simp; try omega)) _ | refine Below.alloc ?_ (by first | omega | (simp only [World.size_alloc]; omega) | (simp; try omega)) _)), fun _ => rfl, by simp⟩
    · have d1 : decide (i < 0) = false := by simpa using h0
      have d2 : decide ((n : Int) ≤ i) = true := by simp; omega
      clear hcs
      go_enter Try.func19, Try.ntmps19
      go_wp2_with fail
      go_ret
      exact ⟨_, rfl, World.ownsRow_nil _ _ _ _, by (repeat (first | exact Below.refl _ _ | assumption | refine Below.drew ?_ | refine Below.setCell ?_ (by first | omega | (simp only [World.size_alloc]; omega) | (simp; try omega)) _ | refine Below.alloc ?_ (by first | omega | (simp only [World.size_alloc]; omega) | (simp; try omega)) _)), fun _ => rfl, by simp⟩
  | true =>
    obtain ⟨k, rfl, hk⟩ := inT_true hin
    obtain ⟨b, off, rfl, -, hb, ca, cc, ra, rc, pa, pc, -, c1, -, -, -, ht⟩ := tab_get hs hk
    rw [tbAt_in hk]
    unfold kndT
    have HCO := Lib.hid ht.cols
    have hfew := ht.cols.shape
    obtain ⟨_, _, _, hfew⟩ := hfew
    have hfew := hfew.few
    have hlt' : (k : Int) < s.ts.length := by omega
    have d1 : decide ((k : Int) < 0) = false := by simp
    have d2 : decide ((s.ts.length : Int) ≤ k) = false := by simp; omega
    have d3 : decide (s.ts.length ≤ k) = false := by simp; omega
    generalize s.ts[k].cs = cs at *
    obtain ⟨m, hm⟩ : ∃ m, cs.length = m := ⟨_, rfl⟩
    have HM := Lib.hid hm
    rw [hm] at HCO c1 hfew
    clear ht hs hf hin hm
    generalize s.ts.length = n at *
    obtain ⟨W1, hW1⟩ : ∃ W1, w.alloc (.cells #[.int .i64 s.ver, .slice (some ⟨b, off, none⟩) n c] 25) = W1 := ⟨_, rfl⟩
    have HB0 : Hid (Below w.heap.size w W1) := by rw [← hW1]; exact (Below.refl _ _).alloc (Nat.le_refl _) _
    have HW1 := Lib.hid hW1
    clear hW1
    go_enter Try.func19, Try.ntmps19
    go_wp2_with fail
    rw [HW1.out]
    clear HW1 d1 d2 d3
    go_loopw [5, 24] (fun v i wr => ∃ k : Nat, k ≤ m ∧ i = .int .i64 k ∧ Hid (wr.ownsRow w.heap.size 3 1 v k (iC ((cs.take k).map CL.k))) ∧ Hid (Below w.heap.size w wr) ∧ Hid (k = 0 → v = .slice none 0 0)) (fun _ i _ => m - (intOf i).toNat)
    case atStart => exact ⟨0, by omega, rfl, World.ownsRow_nil _ _ _ _, HB0, fun _ => rfl⟩
    case round =>
      obtain ⟨j, hj, rfl, HO, HX, HNL⟩ := hrel
      clear HB0
      obtain ⟨va, vc, hv5⟩ := own_slice HO.out
      subst hv5
      by_cases hlt : j < m
      · have hltj : (j : Int) < m := by omega
        have hjc : j < cs.length := by rw [HM.out]; exact hlt
        obtain ⟨cb, co, rfl, -, hcb, c0, c1'⟩ := col_get (HCO.out.below HX.out) hjc
        have hbw : b < wr.heap.size := Nat.lt_of_lt_of_le hb HX.out.size
        have e1 : iC ((cs.take j).map CL.k) ++ [.int .i64 cs[j].k] = iC ((cs.take (j + 1)).map CL.k) := by
          rw [List.take_succ_eq_append_getElem hjc, List.map_append, iC_app]; rfl
        have HE := Lib.hid e1
        clear e1
        generalize cs[j].s = x0 at *
        generalize cs[j].k = x1 at *
        obtain ⟨wb, hwb⟩ : ∃ wb, wr.alloc (.cells #[.string x0, .int .i64 x1] 35) = wb := ⟨_, rfl⟩
        have q1 : wb.cell? ⟨wr.heap.size, 1, none⟩ = some (.int .i64 x1) := by subst hwb; go_simp
        have HOB : Hid (wb.ownsRow w.heap.size 3 1 (.slice va j vc) j (iC ((cs.take j).map CL.k))) := by rw [← hwb]; exact HO.out.alloc _
        have HXB : Hid (Below w.heap.size w wb) := by rw [← hwb]; exact HX.out.alloc HX.out.size _
        have hsb : w.heap.size ≤ wb.heap.size := HXB.out.size
        have HWB := Lib.hid hwb
        have A1 : Hid (j + 1 ≤ maxLen) := by show _ ≤ _; unfold maxLen; omega
        have A2 : Hid ((j + 1) * 8 ≤ 140737488355328) := by show _ ≤ _; omega
        have A3 : Hid (∀ O : Obj, w.heap.size ≤ (wb.alloc O).heap.size) := fun O => by simp; omega
        have A4 : Hid (∀ t (j : Nat) (u : Value), ([.int .i64 x1] : List Value)[j]? = some u → (wb.alloc (.cells #[.int .i64 x1] t)).cell? ((⟨wb.heap.size, 0, none⟩ : Addr).add j) = some u) := fun t => one_cell wb _ t
        have A5 : Hid (∀ u ∈ ([.int .i64 x1] : List Value), u.oneCell' = true) := by intro u hu; simp only [List.mem_singleton] at hu; subst hu; rfl
        have A6 : Hid (∀ (O : Obj) (v' : Value) (w2 : World), w2.ownsRow w.heap.size 3 1 v' (j + 1) (iC ((cs.take j).map CL.k) ++ [.int .i64 x1]) → (wb.alloc O).grownBy w2 (Value.slice va j vc).ownBlock → (w2.ownsRow w.heap.size 3 1 v' (j + 1) (iC ((cs.take (j + 1)).map CL.k)) ∧ Below w.heap.size w w2)) := fun O v' w2 h1 h2 => by
          have hkr := HOB.out.lt
          exact ⟨by rw [← HE.out]; exact h1, (HXB.out.alloc hsb O).trans ((Below.refl _ _).grown h2 (by simp; omega) (fun kk e => (hkr kk e).1))⟩
        clear hwb HO HX HE c1 q1
        go_upto_region 7 with fail
        rw [HWB.out]
        have q1 : wb.cell? ⟨wr.heap.size, 1, none⟩ = some (.int .i64 x1) := by rw [← HWB.out]; go_simp
        clear HWB
        go_wp2_with (at_builtin; refine wpList_append_own _ rfl _ _ 48 rfl w.heap.size 3 i0 (.int .i64 0) 1 8 Try.underlying48 HI.out HZ0.out HZ1.out HZ2.out rfl (by decide) _ _ _ rfl (HOB.out.alloc _) ⟨wb.heap.size, 0, none⟩ 1 1 [.int .i64 x1] rfl rfl (A4.out _) A5.out A1.out A2.out (A3.out _) ?_; intro v' w2 hown2 hgr _; have HXX := Lib.hid (A6.out _ v' w2 hown2 hgr); clear hown2 hgr)
        go_roundw
        case rel => exact ⟨j + 1, by omega, by go_num, HXX.out.1, HXX.out.2, fun h => absurd h (by omega)⟩
        case measure => simp [intOf]; omega
      · have hjm : j = m := by omega
        subst hjm
        go_wp2_with fail
        go_ret
        have e : (cs.map CL.k).length = j := by simpa using HM.out
        exact ⟨.slice va j vc, rfl, by rw [e]; have h := HO.out; rw [List.take_of_length_le (by rw [HM.out]; exact Nat.le_refl _)] at h; exact h, HX.out, fun h0 => HNL.out (by rw [← e, h0]; rfl), by rw [e]; exact hfew⟩

theorem run_nilInts (W : World) (a : Option Addr) (n c : Nat) : (binOp .eql 48 (.slice a n c) (.slice none 0 0)).run Try.prog W = .ok (.bool a.isNone) W := by
  simp only [binOp]
  simp [Op.equal, Op.maxDepth, Lib.run_equalIn_slice_nil W 9999 48 3 a n c 0 0 Try.underlying48]

set_option maxRecDepth 100000 in
set_option maxHeartbeats 2000000 in
theorem rKeyKinds_any {P : Nat → Prop} (v : Value) (s : SC) (i : Int) (w : World) (h : Sc P w v s) : Calls Try.prog 21 #[v, .int .i64 i] w fun e w' => ∃ v, e = .returned v ∧ IntsAt w' v (keyK (tbAt s i)) ∧ Below w.heap.size w w' := by
  have HKK := Lib.hid (fun W (hb : Below w.heap.size w W) => rKinds_any v s i W (h.below hb))
  unfold KndOwn at HKK
  obtain ⟨tv, rfl, hs⟩ := h
  obtain ⟨a, c, rfl, hf⟩ := hs.shape
  obtain ⟨W1, hW1⟩ : ∃ W1, w.alloc (.cells #[.int .i64 s.ver, .slice a s.ts.length c] 25) = W1 := ⟨_, rfl⟩
  have HB0 : Hid (Below w.heap.size w W1) := by rw [← hW1]; exact (Below.refl _ _).alloc (Nat.le_refl _) _
  have hz1 : W1.heap.size = w.heap.size + 1 := by rw [← hW1]; simp
  have q1 : W1.cell? ⟨w.heap.size, 1, none⟩ = some (.slice a s.ts.length c) := by subst hW1; go_simp
  have HQ : Hid (∀ W, Below W1.heap.size W1 W → W.cell? ⟨w.heap.size, 1, none⟩ = some (.slice a s.ts.length c)) := fun W hb =>
    (hb.cell (p := ⟨w.heap.size, 1, none⟩) (show w.heap.size < _ by omega)).trans q1
  have HW1 := Lib.hid hW1
  have HK1 := Lib.hid (HKK.out W1 HB0.out)
  have HS := Lib.hid hs
  clear q1 hW1 HKK hf hs
  obtain ⟨K, hK⟩ : ∃ K, kndT (tbAt s i) = K := ⟨_, rfl⟩
  rw [hK] at HK1
  have HKE := Lib.hid hK
  have hkk : keyK (tbAt s i) = K.take (min (tbAt s i).key.toNat K.length) := by rw [← hK]; unfold keyK keyN kndT; simp
  rw [hkk]
  clear hK hkk
  by_cases hK0 : K = []
  · subst hK0
    have hq := fun W => run_nilInts W none 0 0
    go_enter Try.func21, Try.ntmps21
    go_wp2_with fail
    rw [HW1.out]
    refine HK1.out.mono ?_
    rintro e w1 ⟨vk, rfl, -, hb, hnl, -⟩
    obtain rfl : vk = .slice none 0 0 := by simpa using hnl
    have HX : Hid (Below w.heap.size w w1) := HB0.out.trans (hb.mono (by omega))
    clear hb hnl
    go_wp2_with fail
    go_ret
    exact ⟨_, rfl, by simpa using IntsAt.nil w1, HX.out⟩
  · have hin : inT s i = true := by
      cases hh : inT s i with
      | true => rfl
      | false => have := HKE.out; rw [tbAt_out hh] at this; exact absurd this.symm hK0
    obtain ⟨k, rfl, hk⟩ := inT_true hin
    rw [tbAt_in hk]
    obtain ⟨b, off, rfl, -, hb, ca, cc, ra, rc, pa, pc, -, -, c2, -, -, -⟩ := tab_get HS.out hk
    have hlt' : (k : Int) < s.ts.length := by omega
    have hk0 : (0 : Int) ≤ k := by omega
    obtain ⟨m, hm⟩ : ∃ m, K.length = m := ⟨_, rfl⟩
    rw [hm] at HK1
    have hmp : 0 < m := by rw [← hm]; exact List.length_pos_iff.2 hK0
    have HM := Lib.hid hm
    rw [hm]
    clear hin hm HKE HS
    generalize s.ts[k].key = key at *
    generalize s.ts.length = n at *
    obtain ⟨kl, hkl⟩ : ∃ kl, min key.toNat m = kl := ⟨_, rfl⟩
    rw [hkl]
    have he : max 0 (min key (m : Int)) = (kl : Int) := by omega
    have hklm : kl ≤ m := by omega
    have HE := Lib.hid he
    clear hkl he
    go_enter Try.func21, Try.ntmps21
    go_wp2_with fail
    rw [HW1.out]
    refine HK1.out.mono ?_
    rintro e w1 ⟨vk, rfl, hown, hb1, -, hmx⟩
    obtain ⟨g, cap, rfl, hcap, hg⟩ : ∃ g cap, vk = .slice (some ⟨g, 0, none⟩) m cap ∧ m ≤ cap ∧ W1.heap.size ≤ g := by
      rcases hown.2 with ⟨_, h0⟩ | ⟨g, cap, cur, h1, h2, h3, h4, _⟩
      · omega
      · exact ⟨g, cap, h1, h4, h2⟩
    have hq := fun W => run_nilInts W (some ⟨g, 0, none⟩) m cap
    have q1 := HQ.out w1 hb1
    have HX : Hid (Below w.heap.size w w1) := HB0.out.trans (hb1.mono (by omega))
    have HI : Hid (IntsAt w1 (.slice (some ⟨g, 0, none⟩) kl cap) (K.take kl)) := by
      have h := (intsG_own (by rw [HM.out]; exact hown) (by rw [HM.out]; exact hmx)).slR.take kl hklm
      exact h.ints
    have hklc : kl ≤ cap := by omega
    have he := HE.out
    have c2' := (HX.out.cell (p := ⟨b, off + k * 5 + 2, none⟩) hb).trans c2
    clear hb1 hown c2 HK1
    go_wp2_with fail
    go_ret
    exact ⟨_, rfl, HI.out, HX.out⟩

/-- The key of a row. -/
def keyRow (s : SC) (i : Int) (l : List V) : List V := l.take (min (tbAt s i).key.toNat l.length)
theorem RowAt.take {w : World} {a : Option Addr} {n c : Nat} {l : List V} (h : RowAt w (.slice a n c) l) (k : Nat) (hk : k ≤ n) : RowAt w (.slice a k c) (l.take k) := by
  obtain ⟨a', c', e, hn, hi⟩ := h
  simp only [Value.slice.injEq] at e
  obtain ⟨rfl, rfl, rfl⟩ := e
  have hl : (l.take k).length = k := by simp; omega
  refine ⟨a, c, by rw [hl], by omega, fun j hj => ?_⟩
  obtain ⟨b, off, ea, hb, hr⟩ := hi j (by omega)
  exact ⟨b, off, ea, hb, by simpa using hr⟩
set_option maxRecDepth 100000 in
set_option maxHeartbeats 2000000 in
theorem rKey_any {P : Nat → Prop} (v : Value) (s : SC) (i : Int) (ra : Option Addr) (rn rc : Nat) (l : List V) (w : World) (h : Sc P w v s) (hr : RowAt w (.slice ra rn rc) l) (hrc : rn ≤ rc) : Calls Try.prog 24 #[v, .int .i64 i, .slice ra rn rc] w fun e w' => ∃ v, e = .returned v ∧ RowAt w' v (keyRow s i l) ∧ Below w.heap.size w w' := by
  obtain ⟨tv, rfl, hs⟩ := h
  obtain ⟨a, c, rfl, hf⟩ := hs.shape
  have hrn : l.length = rn := by obtain ⟨_, _, e, _⟩ := hr; simp only [Value.slice.injEq] at e; exact e.2.1.symm
  have HRN := Lib.hid hrn
  have HR := Lib.hid hr
  unfold keyRow
  rw [hrn]
  have hrf : rn ≤ 4398046511104 := by obtain ⟨_, _, _, h, _⟩ := hr; omega
  cases hin : inT s i with
  | false =>
    have hcs : i < 0 ∨ (s.ts.length : Int) ≤ i := by unfold inT at hin; simp at hin; omega
    rw [tbAt_out hin]
    have e0 : l.take (min zTB.key.toNat rn) = [] := by simp [zTB]
    rw [e0]
    clear hs hf hin hr hrn e0
    generalize s.ts.length = n at *
    by_cases h0 : i < 0
    · have d1 : decide (i < 0) = true := by simpa using h0
      clear hcs
      go_enter Try.func24, Try.ntmps24
      go_wp2_with fail
      go_ret
      exact ⟨_, rfl, ⟨none, 0, rfl, by simp, fun i h => absurd h (by simp)⟩, by (repeat (first | exact Below.refl _ _ | assumption | refine Below.drew ?_ | refine Below.setCell ?_ (by first | omega | (simp only [World.size_alloc]; omega) | (simp; try omega)) _ | refine Below.alloc ?_ (by first | omega | (simp only [World.size_alloc]; omega) | (simp; try omega)) _))⟩
    · have d1 : decide (i < 0) = false := by simpa using h0
      have d2 : decide ((n : Int) ≤ i) = true := by simp; omega
      clear hcs
      go_enter Try.func24, Try.ntmps24
      go_wp2_with fail
      go_ret
      exact ⟨_, rfl, ⟨none, 0, rfl, by simp, fun i h => absurd h (by simp)⟩, by (repeat (first | exact Below.refl _ _ | assumption | refine Below.drew ?_ | refine Below.setCell ?_ (by first | omega | (simp only [World.size_alloc]; omega) | (simp; try omega)) _ | refine Below.alloc ?_ (by first | omega | (simp only [World.size_alloc]; omega) | (simp; try omega)) _))⟩
  | true =>
    obtain ⟨k, rfl, hk⟩ := inT_true hin
    rw [tbAt_in hk]
    obtain ⟨b, off, rfl, -, hb, ca, cc, fa, fc, pa, pc, -, -, c2, -, -, -⟩ := tab_get hs hk
    have hlt' : (k : Int) < s.ts.length := by omega
    have hk0 : (0 : Int) ≤ k := by omega
    have d1 : decide ((k : Int) < 0) = false := by simp
    have d2 : decide ((s.ts.length : Int) ≤ k) = false := by simp; omega
    have d3 : decide (s.ts.length ≤ k) = false := by simp; omega
    clear hin hrn hs hf hr
    generalize s.ts[k].key = key at *
    generalize s.ts.length = n at *
    obtain ⟨kl, hkl⟩ : ∃ kl, min key.toNat rn = kl := ⟨_, rfl⟩
    rw [hkl]
    have he : max 0 (min key (rn : Int)) = (kl : Int) := by omega
    have hklm : kl ≤ rn := by omega
    have hklc : kl ≤ rc := by omega
    have HC := Lib.hid (fun W (hb : Below w.heap.size w W) => rCopy_any (.slice ra kl rc) (l.take kl) W ((HR.out.take kl hklm).blw hb))
    unfold RCopyPost at HC
    clear hkl
    go_enter Try.func24, Try.ntmps24
    go_wp2_with fail
    refine (HC.out _ (by (repeat (first | exact Below.refl _ _ | assumption | refine Below.drew ?_ | refine Below.setCell ?_ (by first | omega | (simp only [World.size_alloc]; omega) | (simp; try omega)) _ | refine Below.alloc ?_ (by first | omega | (simp only [World.size_alloc]; omega) | (simp; try omega)) _)))).mono ?_
    rintro e w1 ⟨vk, rfl, hrt, hb1⟩
    have H1 : Hid (RowAt w1 vk (l.take kl)) := hrt.rowB.at (Nat.le_refl _)
    have B1 : Hid (Below w.heap.size w w1) := ((Below.refl _ _).alloc (Nat.le_refl _) _).trans (hb1.mono (by simp))
    clear hrt hb1 he HC
    go_wp2_with fail
    go_ret
    exact ⟨vk, rfl, H1.out, B1.out⟩
end Go.Proofs.Ytjcbmeannhafjaa
