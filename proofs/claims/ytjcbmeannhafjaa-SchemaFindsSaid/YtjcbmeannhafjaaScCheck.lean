
/- Schemas: refers, soundReferences, sound of the program. -/
import Derived.Test.YtjcbmeannhafjaaScSound

import Derived.Test.YtjcbmeannhafjaaScKinds

import Derived.Test.YtjcbmeannhafjaaPdCheck

import Derived.Test.YtjcbmeannhafjaaFirst

import Derived.Test.YtjcbmeannhafjaaRowG

namespace Go.Proofs.Ytjcbmeannhafjaa

open Go.RowKit Go.Deep

def keyN (t : TB) : Nat := min t.key.toNat t.cs.length
def keyK (t : TB) : List Int := (kndT t).take (keyN t)
theorem keyK_len (t : TB) : (keyK t).length = keyN t := by unfold keyK kndT keyN; simp
/-- Do the numbers from place i on name columns of the kinds K? -/
def refL (cs : List CL) (K : List Int) : Nat → List Int → Bool
  | _, [] => true
  | i, c :: r => (inB cs.length c && (atI (cs.map CL.k) c == atI K i)) && refL cs K (i + 1) r
theorem refL_drop (cs : List CL) (K : List Int) (l : List Int) (k : Nat) (h : k < l.length) : refL cs K k (l.drop k) = ((inB cs.length l[k] && (atI (cs.map CL.k) l[k] == atI K k)) && refL cs K (k + 1) (l.drop (k + 1))) := by
  rw [List.drop_eq_getElem_cons h, refL]
theorem refL_end (cs : List CL) (K : List Int) (l : List Int) (k : Nat) (h : l.length ≤ k) : refL cs K k (l.drop k) = true := by
  rw [List.drop_eq_nil_of_le h, refL]
/-- Is a reference valid? -/
def refB (s : SC) (cs : List CL) (r : RF) : Bool := inT s r.t && (decide (r.c.length = keyN (tbAt s r.t)) && refL cs (keyK (tbAt s r.t)) 0 r.c)

set_option maxRecDepth 100000 in
set_option maxHeartbeats 4000000 in
theorem sRefers_any {P : Nat → Prop} (v : Value) (s : SC) (x0 : ByteArray) (ca : Option Addr) (n cc : Nat) (key : Int) (x3 x4 : Value) (cs : List CL) (ia : Option Addr) (m ic : Nat) (r : RF) (w : World) (h : Sc P w v s) (hc : SlR colK P w (.slice ca n cc) cs) (hi : SlR intK P w (.slice ia m ic) r.c) :
    Calls Try.prog 86 #[v, .agg #[.string x0, .slice ca n cc, .int .i64 key, x3, x4], .agg #[.slice ia m ic, .int .i64 r.t]] w fun e w' => e = .returned (.bool (refB s cs r)) ∧ Below w.heap.size w w' := by
  obtain ⟨rc, rt⟩ := r
  have HT := Lib.hid (fun W (hb : Below w.heap.size w W) => sTableAt_any v s rt W (h.below hb))
  have HKK := Lib.hid (fun W (hb : Below w.heap.size w W) => sKeyKinds_any v s rt W (h.below hb))
  obtain ⟨tv, rfl, hs⟩ := h
  obtain ⟨a, c, rfl, -⟩ := hs.shape
  have HC := Lib.hid hc
  have HI := Lib.hid hi.ints
  have hcn : cs.length = n := by obtain ⟨_, _, e, _⟩ := hc.shape; simp at e; omega
  have him : rc.length = m := by obtain ⟨_, _, e, _⟩ := hi.shape; simp at e; omega
  have hnf : n ≤ 17592186044416 := by obtain ⟨_, _, _, hf⟩ := hc.shape; have := hf.few; omega
  have hmf : m ≤ 17592186044416 := by obtain ⟨_, _, _, hf⟩ := hi.shape; have := hf.few; simp only at this; omega
  have HCN := Lib.hid hcn
  have HIM := Lib.hid him
  obtain ⟨z, hz⟩ : ∃ z, refB s cs ⟨rc, rt⟩ = z := ⟨_, rfl⟩
  rw [hz]
  unfold refB at hz
  simp only at hz
  obtain ⟨u, hu⟩ : ∃ u, inT s rt = u := ⟨_, rfl⟩
  unfold TabPost at HT
  unfold KndPost at HKK
  obtain ⟨K, hK⟩ : ∃ K, keyK (tbAt s rt) = K := ⟨_, rfl⟩
  have hKl := keyK_len (tbAt s rt)
  change Hid (∀ W, Below w.heap.size w W → Calls Try.prog 20 #[.agg #[.int .i64 s.ver, .slice a s.ts.length c], .int .i64 rt] W fun e w' => ∃ v, e = .returned v ∧ IntsG W.heap.size w' v (keyK (tbAt s rt)) ∧ Below W.heap.size W w') at HKK
  rw [hK] at hKl HKK hz
  rw [← hKl, him, hu] at hz
  rw [hu] at HT
  have HZ := Lib.hid hz
  obtain ⟨kn, hkn⟩ : ∃ kn, K.length = kn := ⟨_, rfl⟩
  have HKN := Lib.hid hkn
  obtain ⟨W1, hW1⟩ : ∃ W1, ((w.alloc (.cells #[.int .i64 s.ver, .slice a s.ts.length c] 25)).alloc (.cells #[.string x0, .slice ca n cc, .int .i64 key, x3, x4] 40)).alloc (.cells #[.slice ia m ic, .int .i64 rt] 73) = W1 := ⟨_, rfl⟩
  have hz1 : W1.heap.size = w.heap.size + 3 := by rw [← hW1]; simp
  have HB1 : Hid (Below w.heap.size w W1) := by rw [← hW1]; exact (((Below.refl _ _).alloc (Nat.le_refl _) _).alloc (by simp) _).alloc (by simp; omega) _
  have q0 : W1.cell? ⟨w.heap.size, 0, none⟩ = some (.int .i64 s.ver) := by subst hW1; go_simp
  have q1 : W1.cell? ⟨w.heap.size, 1, none⟩ = some (.slice a s.ts.length c) := by subst hW1; go_simp
  have q2 : W1.cell? ⟨w.heap.size + 1, 1, none⟩ = some (.slice ca n cc) := by subst hW1; go_simp
  have q3 : W1.cell? ⟨w.heap.size + 1 + 1, 0, none⟩ = some (.slice ia m ic) := by subst hW1; go_simp
  have q4 : W1.cell? ⟨w.heap.size + 1 + 1, 1, none⟩ = some (.int .i64 rt) := by subst hW1; go_simp
  have HQ : Hid (∀ W, Below W1.heap.size W1 W → W.cell? ⟨w.heap.size, 0, none⟩ = some (.int .i64 s.ver) ∧ W.cell? ⟨w.heap.size, 1, none⟩ = some (.slice a s.ts.length c) ∧ W.cell? ⟨w.heap.size + 1, 1, none⟩ = some (.slice ca n cc) ∧ W.cell? ⟨w.heap.size + 1 + 1, 0, none⟩ = some (.slice ia m ic) ∧ W.cell? ⟨w.heap.size + 1 + 1, 1, none⟩ = some (.int .i64 rt)) := fun W hb =>
    ⟨(hb.cell (p := ⟨w.heap.size, 0, none⟩) (show w.heap.size < _ by omega)).trans q0, (hb.cell (p := ⟨w.heap.size, 1, none⟩) (show w.heap.size < _ by omega)).trans q1, (hb.cell (p := ⟨w.heap.size + 1, 1, none⟩) (show w.heap.size + 1 < _ by omega)).trans q2, (hb.cell (p := ⟨w.heap.size + 1 + 1, 0, none⟩) (show w.heap.size + 1 + 1 < _ by omega)).trans q3, (hb.cell (p := ⟨w.heap.size + 1 + 1, 1, none⟩) (show w.heap.size + 1 + 1 < _ by omega)).trans q4⟩
  have HW1 := Lib.hid hW1
  clear hs hc hi hcn him hz hu hK hKl hkn q0 q1 q2 q3 q4 hW1
  generalize s.ver = sv at *
  generalize s.ts.length = sn at *
  go_enter Try.func86, Try.ntmps86
  go_upto_region 1 with fail
  rw [HW1.out]
  obtain ⟨q0, q1, q2, q3, q4⟩ := HQ.out W1 (Below.refl _ _)
  clear HW1
  go_wp2_with fail
  refine (HT.out W1 HB1.out).mono ?_
  rintro e w1 ⟨fa, fc, ga, gc, pa, pc, rfl, -, hb⟩
  unfold tbV
  obtain ⟨q0, q1, q2, q3, q4⟩ := HQ.out w1 hb
  have HX1 := Lib.hid hb
  have hsz1 := hb.size
  generalize (tbAt s rt).s = y0 at *
  generalize (tbAt s rt).cs.length = y1 at *
  generalize (tbAt s rt).key = y2 at *
  generalize (tbAt s rt).rs.length = y3 at *
  generalize (tbAt s rt).ck.length = y4 at *
  have hl0 : w.heap.size < w1.heap.size := by omega
  have hl1 : w.heap.size + 1 < w1.heap.size := by omega
  have hl2 : w.heap.size + 1 + 1 < w1.heap.size := by omega
  clear hb HT
  cases u with
  | false =>
    have HR : Hid (z = false) := by show _ = _; rw [← HZ.out]; rfl
    clear HZ
    go_wp2_with fail
    go_ret
    exact ⟨by rw [HR.out]; rfl, (HB1.out.trans (HX1.out.mono (by omega))).alloc (by omega) _⟩
  | true =>
    obtain ⟨wb, hwb⟩ : ∃ wb, w1.alloc (.cells #[.string y0, .slice fa y1 fc, .int .i64 y2, .slice ga y3 gc, .slice pa y4 pc] 40) = wb := ⟨_, rfl⟩
    have hbz : wb.heap.size = w1.heap.size + 1 := by rw [← hwb]; simp
    have HXB : Hid (Below W1.heap.size W1 wb) := by rw [← hwb]; exact HX1.out.alloc hsz1 _
    have HWB : Hid (Below w.heap.size w wb) := HB1.out.trans (HXB.out.mono (by omega))
    have HWN := Lib.hid hwb
    have HK2 := Lib.hid (HKK.out wb HWB.out)
    clear hwb HKK
    go_wp2_with fail
    rw [HWN.out]
    refine HK2.out.mono ?_
    rintro e w2 ⟨kv, rfl, hki, hb⟩
    have HX2 : Hid (Below W1.heap.size W1 w2) := HXB.out.trans (hb.mono (by omega))
    have HW2 : Hid (Below w.heap.size w w2) := HWB.out.trans (hb.mono (by omega))
    obtain ⟨ka, kc, rfl⟩ := hki.shape
    obtain ⟨q0, q1, q2, q3, q4⟩ := HQ.out w2 HX2.out
    have hkf : kn ≤ 17592186044416 := by obtain ⟨_, _, _, hf, _⟩ := hki; have := hf.few; rw [HKN.out] at this; exact this
    rw [HKN.out] at hki ⊢
    have HKI := Lib.hid hki
    clear hki hb HK2 HWN
    by_cases hml : m = kn
    · subst hml
      have HZ2 : Hid (refL cs K 0 (rc.drop 0) = z) := by show _ = _; rw [← HZ.out, HKN.out]; simp
      clear HZ
      go_wp2_with fail
      go_loopw [34] (fun i wr => ∃ k : Nat, k ≤ m ∧ i = .int .i64 k ∧ Hid (refL cs K k (rc.drop k) = z) ∧ Hid (Below w2.heap.size w2 wr)) (fun i _ => m - (intOf i).toNat)
      case atStart => exact ⟨0, by omega, rfl, HZ2, Below.refl _ _⟩
      case round =>
        obtain ⟨k, hk, rfl, HR0, HX⟩ := hrel
        clear HZ2
        have hsz2 := HX2.out.size
        obtain ⟨q0, q1, q2, q3, q4⟩ := HQ.out wr (HX2.out.trans (HX.out.mono hsz2))
        have HW : Hid (Below w.heap.size w wr) := HW2.out.trans (HX.out.mono HW2.out.size)
        by_cases hlt : k < m
        · have hlt' : (k : Int) < m := by omega
          have hkc : k < rc.length := by rw [HIM.out]; exact hlt
          have hkK : k < K.length := by rw [HKN.out]; exact hlt
          obtain ⟨ia', ic', e', -, hic⟩ := HI.out.blw HW.out
          simp only [Value.slice.injEq] at e'
          obtain ⟨rfl, -, rfl⟩ := e'
          obtain ⟨ib, io, rfl, hib, c0⟩ := hic k hkc
          obtain ⟨ka', kc', e', -, hkcl⟩ := (HKI.out.below HX.out).at
          simp only [Value.slice.injEq] at e'
          obtain ⟨rfl, -, rfl⟩ := e'
          obtain ⟨kb, ko, rfl, hkb, k0⟩ := hkcl k hkK
          have HD := Lib.hid (refL_drop cs K rc k hkc)
          rw [atI_in hkK] at HD
          generalize rc[k] = cx at *
          generalize K[k] = kx at *
          clear hic hkcl
          by_cases h0 : cx < 0
          · have HR : Hid (z = false) := by show _ = _; rw [← HR0.out, HD.out, show inB cs.length cx = false from by unfold inB; simp; omega]; rfl
            have d1 : decide (cx < 0) = true := decide_eq_true h0
            clear HD HR0 h0
            go_wp2_with fail
            go_quiet (fail)
            rename_i nq
            go_wp2_with fail
            go_ret
            exact ⟨by rw [HR.out]; rfl, HW.out.trans ((((Gr.refl wr).drewN _).below).mono HW.out.size)⟩
          · have d1 : decide (cx < 0) = false := decide_eq_false h0
            obtain ⟨xn, rfl⟩ := Int.eq_ofNat_of_zero_le (show 0 ≤ cx by omega)
            by_cases h1 : n ≤ xn
            · have HR : Hid (z = false) := by show _ = _; rw [← HR0.out, HD.out, show inB cs.length (xn : Int) = false from by unfold inB; rw [HCN.out]; simp; omega]; rfl
              have d2 : decide ((n : Int) ≤ xn) = true := decide_eq_true (by omega)
              have d3 : decide (n ≤ xn) = true := decide_eq_true h1
              clear HD HR0 h0 h1
              go_wp2_with fail
              go_quiet (fail)
              rename_i nq
              go_wp2_with fail
              go_ret
              exact ⟨by rw [HR.out]; rfl, HW.out.trans ((((Gr.refl wr).drewN _).below).mono HW.out.size)⟩
            · have d2 : decide ((n : Int) ≤ xn) = false := decide_eq_false (by omega)
              have d3 : decide (n ≤ xn) = false := decide_eq_false h1
              have hxc : xn < cs.length := by rw [HCN.out]; omega
              have hxn : (xn : Int) < n := by omega
              obtain ⟨cb, co, rfl, -, hcb, -, c1⟩ := col_get (HC.out.below HW.out) hxc
              have e1 : atI (cs.map CL.k) xn = cs[xn].k := by rw [atI_in (by simpa using hxc)]; simp
              have e2 : inB cs.length (xn : Int) = true := by rw [inB_nat]; simpa using hxc
              rw [e1, e2] at HD
              generalize cs[xn].k = cx at *
              by_cases h2 : cx = kx
              · have HR : Hid (refL cs K (k + 1) (rc.drop (k + 1)) = z) := by show _ = _; rw [← HR0.out, HD.out, h2]; simp
                have d4 : (cx != kx) = false := by simpa using h2
                clear HD HR0 h0 h1 h2 e1 e2
                go_wp2_with fail
                go_quiet (fail)
                rename_i nq
                go_wp2_with fail
                go_roundw
                case rel => exact ⟨k + 1, by omega, by go_num, HR, HX.out.trans ((((Gr.refl wr).drewN _).below).mono HX.out.size)⟩
                case measure => simp [intOf]; omega
              · have HR : Hid (z = false) := by show _ = _; rw [← HR0.out, HD.out, show (cx == kx) = false from by simpa using h2]; rfl
                have d4 : (cx != kx) = true := by simpa using h2
                clear HD HR0 h0 h1 h2 e1 e2
                go_wp2_with fail
                go_quiet (fail)
                rename_i nq
                go_wp2_with fail
                go_ret
                exact ⟨by rw [HR.out]; rfl, HW.out.trans ((((Gr.refl wr).drewN _).below).mono HW.out.size)⟩
        · have HR : Hid (z = true) := by show _ = _; rw [← HR0.out]; exact refL_end _ _ _ _ (by rw [HIM.out]; omega)
          go_wp2_with fail
          go_ret
          exact ⟨by rw [HR.out]; rfl, HW.out⟩
    · have HR : Hid (z = false) := by show _ = _; rw [← HZ.out, HKN.out, decide_eq_false hml]; rfl
      have d1 : (m != kn) = true := by simpa using hml
      have d2 : ((m : Int) != kn) = true := by simp; omega
      clear HZ
      go_wp2_with fail
      go_ret
      exact ⟨by rw [HR.out]; rfl, HW2.out⟩

theorem allR_drop (f : RF → Bool) (rs : List RF) (k : Nat) (h : k < rs.length) : (rs.drop k).all f = (f rs[k] && (rs.drop (k + 1)).all f) := by
  rw [List.drop_eq_getElem_cons h, List.all_cons]
theorem allT_drop (f : TB → Bool) (ts : List TB) (k : Nat) (h : k < ts.length) : (ts.drop k).all f = (f ts[k] && (ts.drop (k + 1)).all f) := by
  rw [List.drop_eq_getElem_cons h, List.all_cons]
def refsT (s : SC) (t : TB) : Bool := t.rs.all (refB s t.cs)

set_option maxRecDepth 100000 in
set_option maxHeartbeats 4000000 in
theorem sSoundReferences_any {P : Nat → Prop} (v : Value) (s : SC) (w : World) (h : Sc P w v s) : Calls Try.prog 62 #[v] w fun e w' => e = .returned (.bool (s.ts.all (refsT s))) ∧ Below w.heap.size w w' := by
  have HSC := Lib.hid h
  obtain ⟨tv, rfl, hs⟩ := h
  obtain ⟨a, c, rfl, hf⟩ := hs.shape
  have hfew := hf.few
  have H := Lib.hid hs
  obtain ⟨n, hn⟩ : ∃ n, s.ts.length = n := ⟨_, rfl⟩
  obtain ⟨z, hz⟩ : ∃ z, (s.ts.drop 0).all (refsT s) = z := ⟨_, rfl⟩
  rw [show s.ts.all (refsT s) = (s.ts.drop 0).all (refsT s) from rfl, hz]
  have HZ := Lib.hid hz
  have HN := Lib.hid hn
  rw [hn] at H hfew HSC ⊢
  clear hs hf hn hz
  obtain ⟨sv, hsv⟩ : ∃ sv, s.ver = sv := ⟨_, rfl⟩
  rw [hsv] at HSC ⊢
  obtain ⟨W1, hW1⟩ : ∃ W1, w.alloc (.cells #[.int .i64 sv, .slice a n c] 25) = W1 := ⟨_, rfl⟩
  have HB0 : Hid (Below w.heap.size w W1) := by rw [← hW1]; exact (Below.refl _ _).alloc (Nat.le_refl _) _
  have hz1 : W1.heap.size = w.heap.size + 1 := by rw [← hW1]; simp
  have q0 : W1.cell? ⟨w.heap.size, 0, none⟩ = some (.int .i64 sv) := by subst hW1; go_simp
  have q1 : W1.cell? ⟨w.heap.size, 1, none⟩ = some (.slice a n c) := by subst hW1; go_simp
  have HQ : Hid (∀ W, Below W1.heap.size W1 W → W.cell? ⟨w.heap.size, 0, none⟩ = some (.int .i64 sv) ∧ W.cell? ⟨w.heap.size, 1, none⟩ = some (.slice a n c)) := fun W hb =>
    ⟨(hb.cell (p := ⟨w.heap.size, 0, none⟩) (show w.heap.size < _ by omega)).trans q0, (hb.cell (p := ⟨w.heap.size, 1, none⟩) (show w.heap.size < _ by omega)).trans q1⟩
  have HW1 := Lib.hid hW1
  clear hsv q0 q1 hW1
  go_enter Try.func62, Try.ntmps62
  go_wp2_with fail
  rw [HW1.out]
  clear HW1
  go_loopw [10] (fun i wr => ∃ k : Nat, k ≤ n ∧ i = .int .i64 k ∧ Hid ((s.ts.drop k).all (refsT s) = z) ∧ Hid (Below W1.heap.size W1 wr)) (fun i _ => n - (intOf i).toNat)
  case atStart => exact ⟨0, by omega, rfl, HZ, Below.refl _ _⟩
  case round =>
    obtain ⟨w0, rfl⟩ : ∃ x, x = wr := ⟨wr, rfl⟩
    obtain ⟨k, hk, rfl, HT, HX⟩ := hrel
    clear HZ
    have hzz := HX.out.size
    have HW : Hid (Below w.heap.size w w0) := HB0.out.trans (HX.out.mono (by omega))
    by_cases hlt : k < n
    · have hlt' : (k : Int) < n := by omega
      have hkc : k < s.ts.length := by rw [HN.out]; exact hlt
      obtain ⟨b, off, rfl, -, hb, ca, cc, ra, rc, pa, pc, c0, c1, c2, c3, c4, htb⟩ := tab_get H.out hkc
      have HCO := Lib.hid htb.cols
      have HRE := Lib.hid htb.refs
      have HD := Lib.hid (allT_drop (refsT s) s.ts k hkc)
      have hrf : s.ts[k].rs.length ≤ 17592186044416 := by obtain ⟨_, _, _, hf⟩ := htb.refs.shape; exact hf.few
      replace c0 := (HW.out.cell (p := ⟨b, off + k * 5, none⟩) hb).trans c0
      replace c1 := (HW.out.cell (p := ⟨b, off + k * 5 + 1, none⟩) hb).trans c1
      replace c2 := (HW.out.cell (p := ⟨b, off + k * 5 + 2, none⟩) hb).trans c2
      replace c3 := (HW.out.cell (p := ⟨b, off + k * 5 + 3, none⟩) hb).trans c3
      replace c4 := (HW.out.cell (p := ⟨b, off + k * 5 + 4, none⟩) hb).trans c4
      have hbw : b < w0.heap.size := Nat.lt_of_lt_of_le hb HW.out.size
      obtain ⟨y, hy⟩ : ∃ y, (s.ts.drop (k + 1)).all (refsT s) = y := ⟨_, rfl⟩
      unfold refsT at HD
      have HY := Lib.hid hy
      unfold refsT at hy
      rw [hy] at HD
      clear htb hy
      generalize s.ts[k].s = x0 at *
      generalize s.ts[k].cs = cs at *
      generalize s.ts[k].key = x2 at *
      generalize s.ts[k].rs = rs at *
      generalize s.ts[k].ck.length = x4 at *
      generalize cs.length = x1 at *
      obtain ⟨rn, hrn⟩ : ∃ rn, rs.length = rn := ⟨_, rfl⟩
      have HRN := Lib.hid hrn
      rw [hrn] at HRE hrf c3
      have HT2 : Hid (((rs.drop 0).all (refB s cs) && y) = z) := by show _ = _; rw [← HT.out]; unfold refsT; rw [HD.out]; rfl
      clear hrn HD HT
      obtain ⟨wb, hwb⟩ : ∃ wb, w0.alloc (.cells #[.string x0, .slice ca x1 cc, .int .i64 x2, .slice ra rn rc, .slice pa x4 pc] 40) = wb := ⟨_, rfl⟩
      have hbs : wb.heap.size = w0.heap.size + 1 := by rw [← hwb]; simp
      have HXB : Hid (Below W1.heap.size W1 wb) := by rw [← hwb]; exact HX.out.alloc hzz _
      have a0 : wb.cell? ⟨w0.heap.size, 0, none⟩ = some (.string x0) := by subst hwb; go_simp
      have a1 : wb.cell? ⟨w0.heap.size, 1, none⟩ = some (.slice ca x1 cc) := by subst hwb; go_simp
      have a2 : wb.cell? ⟨w0.heap.size, 2, none⟩ = some (.int .i64 x2) := by subst hwb; go_simp
      have a3 : wb.cell? ⟨w0.heap.size, 3, none⟩ = some (.slice ra rn rc) := by subst hwb; go_simp
      have a4 : wb.cell? ⟨w0.heap.size, 4, none⟩ = some (.slice pa x4 pc) := by subst hwb; go_simp
      have HA : Hid (∀ W, Below wb.heap.size wb W → W.cell? ⟨w0.heap.size, 0, none⟩ = some (.string x0) ∧ W.cell? ⟨w0.heap.size, 1, none⟩ = some (.slice ca x1 cc) ∧ W.cell? ⟨w0.heap.size, 2, none⟩ = some (.int .i64 x2) ∧ W.cell? ⟨w0.heap.size, 3, none⟩ = some (.slice ra rn rc) ∧ W.cell? ⟨w0.heap.size, 4, none⟩ = some (.slice pa x4 pc)) := fun W hb =>
        ⟨(hb.cell (p := ⟨w0.heap.size, 0, none⟩) (show w0.heap.size < _ by omega)).trans a0, (hb.cell (p := ⟨w0.heap.size, 1, none⟩) (show w0.heap.size < _ by omega)).trans a1, (hb.cell (p := ⟨w0.heap.size, 2, none⟩) (show w0.heap.size < _ by omega)).trans a2, (hb.cell (p := ⟨w0.heap.size, 3, none⟩) (show w0.heap.size < _ by omega)).trans a3, (hb.cell (p := ⟨w0.heap.size, 4, none⟩) (show w0.heap.size < _ by omega)).trans a4⟩
      have HWB := Lib.hid hwb
      have hwrl : w0.heap.size < wb.heap.size := by omega
      clear a0 a1 a2 a3 a4 hwb
      go_wp2_with fail
      rw [HWB.out]
      clear c0 c1 c2 c3 c4 HWB
      go_loopw [17] (fun i wr => ∃ j : Nat, j ≤ rn ∧ i = .int .i64 j ∧ Hid (((rs.drop j).all (refB s cs) && y) = z) ∧ Hid (Below wb.heap.size wb wr)) (fun i _ => rn - (intOf i).toNat)
      case atStart => exact ⟨0, by omega, rfl, HT2, Below.refl _ _⟩
      case round =>
        obtain ⟨j, hj, rfl, HT, HXQ⟩ := hrel
        clear HT2
        have hzq := HXQ.out.size
        have HX1 : Hid (Below W1.heap.size W1 wr) := HXB.out.trans (HXQ.out.mono (by omega))
        have HWQ : Hid (Below w.heap.size w wr) := HB0.out.trans (HX1.out.mono (by omega))
        obtain ⟨q0, q1⟩ := HQ.out wr HX1.out
        obtain ⟨a0, a1, a2, a3, a4⟩ := HA.out wr HXQ.out
        have hl0 : w.heap.size < wr.heap.size := by omega
        have hl1 : w0.heap.size < wr.heap.size := by omega
        by_cases hltj : j < rn
        · have hltj' : (j : Int) < rn := by omega
          have hjc : j < rs.length := by rw [HRN.out]; exact hltj
          obtain ⟨rb, ro, rfl, -, hrb, ia, ic, r0, r1, hri⟩ := ref_get HRE.out hjc
          have HD := Lib.hid (allR_drop (refB s cs) rs j hjc)
          obtain ⟨u, hu⟩ : ∃ u, refB s cs rs[j] = u := ⟨_, rfl⟩
          rw [hu] at HD
          have HRF : Hid (∀ W, Below w.heap.size w W → Calls Try.prog 86 #[.agg #[.int .i64 sv, .slice (some ⟨b, off, none⟩) n c], .agg #[.string x0, .slice ca x1 cc, .int .i64 x2, .slice (some ⟨rb, ro, none⟩) rn rc, .slice pa x4 pc], .agg #[.slice ia rs[j].c.length ic, .int .i64 rs[j].t]] W fun e w' => e = .returned (.bool u) ∧ Below W.heap.size W w') := fun W hb => by
            have h := sRefers_any _ s x0 ca x1 cc x2 (.slice (some ⟨rb, ro, none⟩) rn rc) (.slice pa x4 pc) cs ia _ ic rs[j] W (HSC.out.below hb) (HCO.out.below hb) (hri.below hb)
            rw [hu] at h; exact h
          replace r0 := (HWQ.out.cell (p := ⟨rb, ro + j * 2, none⟩) hrb).trans r0
          replace r1 := (HWQ.out.cell (p := ⟨rb, ro + j * 2 + 1, none⟩) hrb).trans r1
          have hrbq : rb < wr.heap.size := Nat.lt_of_lt_of_le hrb HWQ.out.size
          clear hu hri
          generalize rs[j].c.length = im at *
          generalize rs[j].t = it at *
          have HRF2 := Lib.hid (HRF.out (wr.alloc (.cells #[.slice ia im ic, .int .i64 it] 73)) (HWQ.out.alloc HWQ.out.size _))
          clear HRF
          go_wp2_with fail
          refine HRF2.out.mono ?_
          rintro e w2 ⟨rfl, hb2⟩
          have HX2 : Hid (Below wb.heap.size wb w2) := (HXQ.out.alloc hzq _).trans (hb2.mono (by simp; omega))
          clear hb2 HRF2
          cases u with
          | true =>
            have HR : Hid (((rs.drop (j + 1)).all (refB s cs) && y) = z) := by show _ = _; rw [← HT.out, HD.out]; rfl
            clear HD HT
            go_wp2_with fail
            go_roundw
            case rel => exact ⟨j + 1, by omega, by go_num, HR, HX2⟩
            case measure => simp [intOf]; omega
          | false =>
            have HR : Hid (z = false) := by show _ = _; rw [← HT.out, HD.out]; rfl
            clear HD HT
            go_wp2_with fail
            go_ret
            exact ⟨by rw [HR.out]; rfl, HB0.out.trans ((HXB.out.trans (HX2.out.mono (by omega))).mono (by omega))⟩
        · have hd : rs.drop j = [] := List.drop_eq_nil_of_le (by rw [HRN.out]; omega)
          have HR : Hid ((s.ts.drop (k + 1)).all (refsT s) = z) := by show _ = _; rw [← HT.out, HY.out, hd]; rfl
          clear hd
          clear HT
          go_wp2_with fail
          go_roundw
          case rel => exact ⟨k + 1, by omega, by go_num, HR, HX1⟩
          case measure => simp [intOf]; omega
    · have HR : Hid (z = true) := by show _ = _; rw [← HT.out, List.drop_eq_nil_of_le (by rw [HN.out]; omega)]; rfl
      go_wp2_with fail
      go_ret
      exact ⟨by rw [HR.out]; rfl, HW.out⟩

/-- Is a schema valid but for limits and checks? -/
def soundS (s : SC) : Bool := decide (0 ≤ s.ver) && (decide (s.ver ≤ 1000) && (tabsB [] s.ts && s.ts.all (refsT s)))
set_option maxRecDepth 100000 in
set_option maxHeartbeats 4000000 in
theorem sSound_any {P : Nat → Prop} (v : Value) (s : SC) (w : World) (h : Sc P w v s) (hnm : namesT s.ts) : Calls Try.prog 37 #[v] w fun e w' => e = .returned (.bool (soundS s)) ∧ Below w.heap.size w w' := by
  have HSR := Lib.hid (fun W (hb : Below w.heap.size w W) => sSoundReferences_any v s W (h.below hb))
  obtain ⟨tv, rfl, hs⟩ := h
  have HST := Lib.hid (fun W (hb : Below w.heap.size w W) => sSoundTables_any tv s.ts W (hs.below hb) hnm)
  obtain ⟨a, c, rfl, hf⟩ := hs.shape
  obtain ⟨z, hz⟩ : ∃ z, soundS s = z := ⟨_, rfl⟩
  rw [hz]
  have HZ := Lib.hid hz
  clear hz hs hf hnm
  unfold soundS at HZ
  obtain ⟨y1, hy1⟩ : ∃ y, tabsB [] s.ts = y := ⟨_, rfl⟩
  obtain ⟨y2, hy2⟩ : ∃ y, s.ts.all (refsT s) = y := ⟨_, rfl⟩
  rw [hy1] at HST HZ
  rw [hy2] at HSR HZ
  clear hy1 hy2
  generalize s.ver = sv at *
  generalize s.ts.length = n at *
  obtain ⟨W1, hW1⟩ : ∃ W1, w.alloc (.cells #[.int .i64 sv, .slice a n c] 25) = W1 := ⟨_, rfl⟩
  have HB0 : Hid (Below w.heap.size w W1) := by rw [← hW1]; exact (Below.refl _ _).alloc (Nat.le_refl _) _
  have hz1 : W1.heap.size = w.heap.size + 1 := by rw [← hW1]; simp
  have q0 : W1.cell? ⟨w.heap.size, 0, none⟩ = some (.int .i64 sv) := by subst hW1; go_simp
  have q1 : W1.cell? ⟨w.heap.size, 1, none⟩ = some (.slice a n c) := by subst hW1; go_simp
  have HQ : Hid (∀ W, Below W1.heap.size W1 W → W.cell? ⟨w.heap.size, 0, none⟩ = some (.int .i64 sv) ∧ W.cell? ⟨w.heap.size, 1, none⟩ = some (.slice a n c)) := fun W hb =>
    ⟨(hb.cell (p := ⟨w.heap.size, 0, none⟩) (show w.heap.size < _ by omega)).trans q0, (hb.cell (p := ⟨w.heap.size, 1, none⟩) (show w.heap.size < _ by omega)).trans q1⟩
  have HW1 := Lib.hid hW1
  clear q0 q1 hW1
  by_cases h0 : 0 ≤ sv
  · have d0 : decide (0 ≤ sv) = true := decide_eq_true h0
    by_cases h1 : sv ≤ 1000
    · have d1 : decide (sv ≤ 1000) = true := decide_eq_true h1
      have HZ1 : Hid ((y1 && y2) = z) := by show _ = _; rw [← HZ.out, d0, d1]; rfl
      clear HZ h0 h1
      go_enter Try.func37, Try.ntmps37
      go_wp2_with fail
      rw [HW1.out]
      refine (HST.out W1 HB0.out).mono ?_
      rintro e w1 ⟨rfl, hb⟩
      obtain ⟨q0, q1⟩ := HQ.out w1 hb
      have HX1 := Lib.hid hb
      have HW : Hid (Below w.heap.size w w1) := HB0.out.trans (hb.mono (by omega))
      have HS2 := Lib.hid (HSR.out w1 HW.out)
      clear hb HSR
      cases y1 with
      | false =>
        have HR : Hid (z = false) := by show _ = _; rw [← HZ1.out]; rfl
        clear HZ1
        go_wp2_with fail
        go_ret
        exact ⟨by rw [HR.out]; rfl, HW.out⟩
      | true =>
        have HR : Hid (z = y2) := by show _ = _; rw [← HZ1.out]; rfl
        clear HZ1
        go_wp2_with fail
        refine HS2.out.mono ?_
        rintro e w2 ⟨rfl, hb⟩
        have HW2 : Hid (Below w.heap.size w w2) := HW.out.trans (hb.mono HW.out.size)
        clear hb HS2
        go_wp2_with fail
        go_ret
        exact ⟨by rw [HR.out]; rfl, HW2.out⟩
    · have d1 : decide (sv ≤ 1000) = false := decide_eq_false h1
      have HR : Hid (z = false) := by show _ = _; rw [← HZ.out, d1]; simp
      clear HZ h0 h1
      go_enter Try.func37, Try.ntmps37
      go_wp2_with fail
      go_ret
      exact ⟨by rw [HR.out]; rfl, by rw [HW1.out]; exact HB0.out⟩
  · have d0 : decide (0 ≤ sv) = false := decide_eq_false h0
    have HR : Hid (z = false) := by show _ = _; rw [← HZ.out, d0]; rfl
    clear HZ h0
    go_enter Try.func37, Try.ntmps37
    go_wp2_with fail
    go_ret
    exact ⟨by rw [HR.out]; rfl, by rw [HW1.out]; exact HB0.out⟩
end Go.Proofs.Ytjcbmeannhafjaa

/- Schemas: Check of the program. -/
namespace Go.Proofs.Ytjcbmeannhafjaa

open Go.RowKit Go.Deep

/-- The error of the first check that has one. -/
def fstC (K : List Int) : List PT → Int
  | [] => 0
  | p :: r => if checkP K [] p = 0 then fstC K r else checkP K [] p
def fstT : List TB → Int
  | [] => 0
  | t :: r => if fstC (kndT t) t.ck = 0 then fstT r else fstC (kndT t) t.ck
theorem fstC_drop (K : List Int) (ps : List PT) (k : Nat) (h : k < ps.length) : fstC K (ps.drop k) = if checkP K [] ps[k] = 0 then fstC K (ps.drop (k + 1)) else checkP K [] ps[k] := by
  rw [List.drop_eq_getElem_cons h, fstC]
theorem fstC_end (K : List Int) (ps : List PT) (k : Nat) (h : ps.length ≤ k) : fstC K (ps.drop k) = 0 := by rw [List.drop_eq_nil_of_le h, fstC]
theorem fstT_drop (ts : List TB) (k : Nat) (h : k < ts.length) : fstT (ts.drop k) = if fstC (kndT ts[k]) ts[k].ck = 0 then fstT (ts.drop (k + 1)) else fstC (kndT ts[k]) ts[k].ck := by
  rw [List.drop_eq_getElem_cons h, fstT]
theorem fstT_end (ts : List TB) (k : Nat) (h : ts.length ≤ k) : fstT (ts.drop k) = 0 := by rw [List.drop_eq_nil_of_le h, fstT]
/-- What Check answers. -/
def checkS (s : SC) : Int := if smallS s = false then 2 else if soundS s = false then 70 else fstT s.ts

set_option maxRecDepth 100000 in
set_option maxHeartbeats 4000000 in
theorem sCheck_any {P : Nat → Prop} (v : Value) (s : SC) (w : World) (h : Sc P w v s) (hnm : namesT s.ts) : Calls Try.prog 11 #[v] w fun e w' => e = .returned (.int .i64 (checkS s)) ∧ Below w.heap.size w w' := by
  have HSM := Lib.hid (fun W (hb : Below w.heap.size w W) => sSmall_any v s W (h.below hb))
  have HSO := Lib.hid (fun W (hb : Below w.heap.size w W) => sSound_any v s W (h.below hb) hnm)
  have HKI := Lib.hid (fun i W (hb : Below w.heap.size w W) => sKinds_any v s i W (h.below hb))
  obtain ⟨tv, rfl, hs⟩ := h
  obtain ⟨a, c, rfl, hf⟩ := hs.shape
  have hfew := hf.few
  have H := Lib.hid hs
  obtain ⟨n, hn⟩ : ∃ n, s.ts.length = n := ⟨_, rfl⟩
  obtain ⟨z, hz⟩ : ∃ z, checkS s = z := ⟨_, rfl⟩
  rw [hz]
  have HZ := Lib.hid hz
  unfold checkS at HZ
  have HN := Lib.hid hn
  rw [hn] at H hfew HSM HSO HKI ⊢
  obtain ⟨y1, hy1⟩ : ∃ y, smallS s = y := ⟨_, rfl⟩
  obtain ⟨y2, hy2⟩ : ∃ y, soundS s = y := ⟨_, rfl⟩
  rw [hy1] at HSM HZ
  rw [hy2] at HSO HZ
  obtain ⟨sv, hsv⟩ : ∃ sv, s.ver = sv := ⟨_, rfl⟩
  rw [hsv] at HSM HSO HKI ⊢
  clear hs hf hn hz hy1 hy2 hnm
  obtain ⟨W1, hW1⟩ : ∃ W1, w.alloc (.cells #[.int .i64 sv, .slice a n c] 25) = W1 := ⟨_, rfl⟩
  have HB0 : Hid (Below w.heap.size w W1) := by rw [← hW1]; exact (Below.refl _ _).alloc (Nat.le_refl _) _
  have hz1 : W1.heap.size = w.heap.size + 1 := by rw [← hW1]; simp
  have q0 : W1.cell? ⟨w.heap.size, 0, none⟩ = some (.int .i64 sv) := by subst hW1; go_simp
  have q1 : W1.cell? ⟨w.heap.size, 1, none⟩ = some (.slice a n c) := by subst hW1; go_simp
  have HQ : Hid (∀ W, Below W1.heap.size W1 W → W.cell? ⟨w.heap.size, 0, none⟩ = some (.int .i64 sv) ∧ W.cell? ⟨w.heap.size, 1, none⟩ = some (.slice a n c)) := fun W hb =>
    ⟨(hb.cell (p := ⟨w.heap.size, 0, none⟩) (show w.heap.size < _ by omega)).trans q0, (hb.cell (p := ⟨w.heap.size, 1, none⟩) (show w.heap.size < _ by omega)).trans q1⟩
  have HW1 := Lib.hid hW1
  have HS1 := Lib.hid (HSM.out W1 HB0.out)
  clear hsv hW1 q0 q1 HSM
  go_enter Try.func11, Try.ntmps11
  go_wp2_with fail
  rw [HW1.out]
  refine HS1.out.mono ?_
  rintro e w1 ⟨rfl, hb⟩
  obtain ⟨q0, q1⟩ := HQ.out w1 hb
  have HX1 := Lib.hid hb
  have HWA : Hid (Below w.heap.size w w1) := HB0.out.trans (hb.mono (by omega))
  have HS2 := Lib.hid (HSO.out w1 HWA.out)
  clear hb HS1 HSO HW1
  cases y1 with
  | false =>
    have HR : Hid (z = 2) := by show _ = _; rw [← HZ.out]; rfl
    clear HZ
    go_wp2_with fail
    go_ret
    exact ⟨by rw [HR.out]; rfl, HWA.out⟩
  | true =>
    go_wp2_with fail
    refine HS2.out.mono ?_
    rintro e w2 ⟨rfl, hb⟩
    obtain ⟨q0, q1⟩ := HQ.out w2 (HX1.out.trans (hb.mono HX1.out.size))
    have HX2 : Hid (Below W1.heap.size W1 w2) := HX1.out.trans (hb.mono HX1.out.size)
    have HWB : Hid (Below w.heap.size w w2) := HWA.out.trans (hb.mono HWA.out.size)
    clear hb HS2
    cases y2 with
    | false =>
      have HR : Hid (z = 70) := by show _ = _; rw [← HZ.out]; rfl
      clear HZ
      go_wp2_with fail
      go_ret
      exact ⟨by rw [HR.out]; rfl, HWB.out⟩
    | true =>
      have HZ2 : Hid (fstT (s.ts.drop 0) = z) := by show _ = _; rw [← HZ.out]; rfl
      have hsz2 := HX2.out.size
      clear HZ
      go_wp2_with fail
      go_loopw [18] (fun i wr => ∃ k : Nat, k ≤ n ∧ i = .int .i64 k ∧ Hid (fstT (s.ts.drop k) = z) ∧ Hid (Below w2.heap.size w2 wr)) (fun i _ => n - (intOf i).toNat)
      case atStart => exact ⟨0, by omega, rfl, HZ2, Below.refl _ _⟩
      case round =>
        obtain ⟨w0, rfl⟩ : ∃ x, x = wr := ⟨wr, rfl⟩
        obtain ⟨k, hk, rfl, HT, HX⟩ := hrel
        clear HZ2
        have hzz := HX.out.size
        have HXA : Hid (Below W1.heap.size W1 w0) := HX2.out.trans (HX.out.mono hsz2)
        have HW : Hid (Below w.heap.size w w0) := HB0.out.trans (HXA.out.mono (by omega))
        obtain ⟨q0, q1⟩ := HQ.out w0 HXA.out
        have hl0 : w.heap.size < w0.heap.size := by omega
        by_cases hlt : k < n
        · have hlt' : (k : Int) < n := by omega
          have hkc : k < s.ts.length := by rw [HN.out]; exact hlt
          obtain ⟨b, off, rfl, -, hb, ca, cc, ra, rc, pa, pc, c0, c1, c2, c3, c4, htb⟩ := tab_get H.out hkc
          have HPS := Lib.hid htb.chks
          have HD := Lib.hid (fstT_drop s.ts k hkc)
          have hpf : s.ts[k].ck.length ≤ 17592186044416 := htb.chks.1.few
          have HK1 := Lib.hid (fun W (hb : Below w.heap.size w W) => HKI.out (k : Int) W hb)
          rw [tbAt_in hkc] at HK1
          replace c0 := (HW.out.cell (p := ⟨b, off + k * 5, none⟩) hb).trans c0
          replace c1 := (HW.out.cell (p := ⟨b, off + k * 5 + 1, none⟩) hb).trans c1
          replace c2 := (HW.out.cell (p := ⟨b, off + k * 5 + 2, none⟩) hb).trans c2
          replace c3 := (HW.out.cell (p := ⟨b, off + k * 5 + 3, none⟩) hb).trans c3
          replace c4 := (HW.out.cell (p := ⟨b, off + k * 5 + 4, none⟩) hb).trans c4
          have hbw : b < w0.heap.size := Nat.lt_of_lt_of_le hb HW.out.size
          clear htb
          generalize kndT s.ts[k] = K at *
          generalize s.ts[k].s = x0 at *
          generalize s.ts[k].cs.length = x1 at *
          generalize s.ts[k].key = x2 at *
          generalize s.ts[k].rs.length = x3 at *
          generalize s.ts[k].ck = ps at *
          obtain ⟨pn, hpn⟩ : ∃ pn, ps.length = pn := ⟨_, rfl⟩
          have HPN := Lib.hid hpn
          rw [hpn] at hpf c4
          have HT2 : Hid ((if fstC K (ps.drop 0) = 0 then fstT (s.ts.drop (k + 1)) else fstC K (ps.drop 0)) = z) := by show _ = _; rw [← HT.out, HD.out]; rfl
          obtain ⟨yt, hyt⟩ : ∃ y, fstT (s.ts.drop (k + 1)) = y := ⟨_, rfl⟩
          have HYT := Lib.hid hyt
          rw [hyt] at HT2
          clear hpn HD HT hyt
          obtain ⟨wb, hwb⟩ : ∃ wb, w0.alloc (.cells #[.string x0, .slice ca x1 cc, .int .i64 x2, .slice ra x3 rc, .slice pa pn pc] 40) = wb := ⟨_, rfl⟩
          have hbs : wb.heap.size = w0.heap.size + 1 := by rw [← hwb]; simp
          have HXB : Hid (Below W1.heap.size W1 wb) := by rw [← hwb]; exact HXA.out.alloc (by omega) _
          have HXB2 : Hid (Below w2.heap.size w2 wb) := by rw [← hwb]; exact HX.out.alloc hzz _
          have HWW : Hid (Below w.heap.size w wb) := HB0.out.trans (HXB.out.mono (by omega))
          have a4 : wb.cell? ⟨w0.heap.size, 4, none⟩ = some (.slice pa pn pc) := by subst hwb; go_simp
          have HA : Hid (∀ W, Below wb.heap.size wb W → W.cell? ⟨w0.heap.size, 4, none⟩ = some (.slice pa pn pc)) := fun W hb =>
            (hb.cell (p := ⟨w0.heap.size, 4, none⟩) (show w0.heap.size < _ by omega)).trans a4
          have HWN := Lib.hid hwb
          have HK2 := Lib.hid (HK1.out wb HWW.out)
          clear a4 hwb HK1
          go_wp2_with fail
          rw [HWN.out]
          refine HK2.out.mono ?_
          rintro e w3 ⟨kv, rfl, hki, hb⟩
          obtain ⟨ka, kc, rfl⟩ := hki.shape
          have HKV : Hid (IntsAt w3 (.slice ka K.length kc) K) := hki.at
          have HX3B : Hid (Below w2.heap.size w2 w3) := (HXB2.out).trans (hb.mono (by omega))
          have HX3 : Hid (Below W1.heap.size W1 w3) := HXB.out.trans (hb.mono (by omega))
          have HW3 : Hid (Below w.heap.size w w3) := HWW.out.trans (hb.mono HWW.out.size)
          have a4 := HA.out w3 hb
          have hbz := hb.size
          obtain ⟨q0, q1⟩ := HQ.out w3 HX3.out
          have h3w : w.heap.size + 1 ≤ w3.heap.size := by omega
          obtain ⟨kn, hkn⟩ : ∃ kn, K.length = kn := ⟨_, rfl⟩
          rw [hkn] at HKV ⊢
          clear hki hb HK2 HWN c0 c1 c2 c3 c4 hkn
          go_wp2_with fail
          go_loopw [29] (fun i wr => ∃ j : Nat, j ≤ pn ∧ i = .int .i64 j ∧ Hid ((if fstC K (ps.drop j) = 0 then yt else fstC K (ps.drop j)) = z) ∧ Hid (Below w3.heap.size w3 wr)) (fun i _ => pn - (intOf i).toNat)
          case atStart => exact ⟨0, by omega, rfl, HT2, Below.refl _ _⟩
          case round =>
            obtain ⟨j, hj, rfl, HT, HXQ⟩ := hrel
            clear HT2
            have hzq := HXQ.out.size
            have HWQ : Hid (Below w.heap.size w wr) := HW3.out.trans (HXQ.out.mono HW3.out.size)
            by_cases hltj : j < pn
            · have hltj' : (j : Int) < pn := by omega
              have hjc : j < ps.length := by rw [HPN.out]; exact hltj
              obtain ⟨pb, po, xa, xc, rfl, -, hpb, g0, g1, g2, g3, g4, g5, g6, g7, g8, g9, g10, g11, g12, hps⟩ := HPS.out.get hjc
              have HD := Lib.hid (fstC_drop K ps j hjc)
              generalize ps[j] = X at HD g0 g1 g2 g3 g4 g5 g6 g7 g8 g9 g10 g11 g12 hps
              obtain ⟨xop, xcmp, ⟨xlk, xli, ⟨xlvk, xlvn, xlvs⟩⟩, ⟨xrk, xri, ⟨xrvk, xrvn, xrvs⟩⟩, xs⟩ := X
              simp only [PT.op, PT.cmp, PT.l, PT.r, PT.args] at g0 g1 g2 g3 g4 g5 g6 g7 g8 g9 g10 g11 g12
              change PdS _ w xs xa xc at hps
              have HXS := Lib.hid hps
              obtain ⟨xn, hxn⟩ : ∃ xn, xs.length = xn := ⟨_, rfl⟩
              have HXN := Lib.hid hxn
              rw [hxn] at g12
              replace g0 := (HWQ.out.cell (p := ⟨pb, po + j * 13, none⟩) hpb).trans g0
              replace g1 := (HWQ.out.cell (p := ⟨pb, po + j * 13 + 1, none⟩) hpb).trans g1
              replace g2 := (HWQ.out.cell (p := ⟨pb, po + j * 13 + 2, none⟩) hpb).trans g2
              replace g3 := (HWQ.out.cell (p := ⟨pb, po + j * 13 + 3, none⟩) hpb).trans g3
              replace g4 := (HWQ.out.cell (p := ⟨pb, po + j * 13 + 4, none⟩) hpb).trans g4
              replace g5 := (HWQ.out.cell (p := ⟨pb, po + j * 13 + 5, none⟩) hpb).trans g5
              replace g6 := (HWQ.out.cell (p := ⟨pb, po + j * 13 + 6, none⟩) hpb).trans g6
              replace g7 := (HWQ.out.cell (p := ⟨pb, po + j * 13 + 7, none⟩) hpb).trans g7
              replace g8 := (HWQ.out.cell (p := ⟨pb, po + j * 13 + 8, none⟩) hpb).trans g8
              replace g9 := (HWQ.out.cell (p := ⟨pb, po + j * 13 + 9, none⟩) hpb).trans g9
              replace g10 := (HWQ.out.cell (p := ⟨pb, po + j * 13 + 10, none⟩) hpb).trans g10
              replace g11 := (HWQ.out.cell (p := ⟨pb, po + j * 13 + 11, none⟩) hpb).trans g11
              replace g12 := (HWQ.out.cell (p := ⟨pb, po + j * 13 + 12, none⟩) hpb).trans g12
              have hpbw : pb < wr.heap.size := Nat.lt_of_lt_of_le hpb HWQ.out.size
              obtain ⟨er, her⟩ : ∃ er, checkP K [] (PT.mk xop xcmp ⟨xlk, xli, ⟨xlvk, xlvn, xlvs⟩⟩ ⟨xrk, xri, ⟨xrvk, xrvn, xrvs⟩⟩ xs) = er := ⟨_, rfl⟩
              rw [her] at HD
              have HCK := Lib.hid (pCheck_any K [] (.slice ka kn kc) (.slice none 0 0) (PT.mk xop xcmp ⟨xlk, xli, ⟨xlvk, xlvn, xlvs⟩⟩ ⟨xrk, xri, ⟨xrvk, xrvn, xrvs⟩⟩ xs) (.agg #[.int .i64 xop, .int .i64 xcmp, .int .i64 xlk, .int .i64 xli, .int .i64 xlvk, .int .i64 xlvn, .string xlvs, .int .i64 xrk, .int .i64 xri, .int .i64 xrvk, .int .i64 xrvn, .string xrvs, .slice xa xn xc]) (wr.alloc (.cells #[.int .i64 xop, .int .i64 xcmp, .int .i64 xlk, .int .i64 xli, .int .i64 xlvk, .int .i64 xlvn, .string xlvs, .int .i64 xrk, .int .i64 xri, .int .i64 xrvk, .int .i64 xrvn, .string xrvs, .slice xa xn xc] 77)) (HKV.out.blw (HXQ.out.alloc hzq _)) (IntsAt.nil _) ⟨xa, xc, by simp only [pdV, PT.op, PT.cmp, PT.l, PT.r, PT.args, HXN.out], (HXS.out.weak (fun _ _ => trivial)).below (HWQ.out.alloc HWQ.out.size _)⟩)
              rw [her] at HCK
              clear hps hxn her
              go_wp2_with fail
              refine HCK.out.mono ?_
              rintro e w4 ⟨rfl, hb4⟩
              have HX4 : Hid (Below w3.heap.size w3 w4) := (HXQ.out.alloc hzq _).trans (hb4.mono (by simp; omega))
              clear hb4 HCK
              by_cases he0 : er = 0
              · have HR : Hid ((if fstC K (ps.drop (j + 1)) = 0 then yt else fstC K (ps.drop (j + 1))) = z) := by show _ = _; rw [← HT.out, HD.out, if_pos he0]
                have e0 : (er != 0) = false := by simpa using he0
                clear HD HT he0
                go_wp2_with fail
                go_roundw
                case rel => exact ⟨j + 1, by omega, by go_num, HR, HX4⟩
                case measure => simp [intOf]; omega
              · have HR : Hid (z = er) := by show _ = _; rw [← HT.out, HD.out, if_neg he0, if_neg he0]
                have e0 : (er != 0) = true := by simpa using he0
                clear HD HT he0
                go_wp2_with fail
                go_ret
                exact ⟨by rw [HR.out]; rfl, HW3.out.trans (HX4.out.mono HW3.out.size)⟩
            · have HR : Hid (fstT (s.ts.drop (k + 1)) = z) := by show _ = _; rw [← HT.out, HYT.out, fstC_end K ps j (by rw [HPN.out]; omega)]; rfl
              have HX5 : Hid (Below w2.heap.size w2 wr) := HX3B.out.trans (HXQ.out.mono (by have := HX3B.out.size; omega))
              clear HT
              go_wp2_with fail
              go_roundw
              case rel => exact ⟨k + 1, by omega, by go_num, HR, HX5⟩
              case measure => simp [intOf]; omega
        · have HR : Hid (z = 0) := by show _ = _; rw [← HT.out]; exact fstT_end _ _ (by rw [HN.out]; omega)
          go_wp2_with fail
          go_ret
          exact ⟨by rw [HR.out]; rfl, HW.out⟩
end Go.Proofs.Ytjcbmeannhafjaa

/- Schemas: Find of the program and of the reference. -/
namespace Go.Proofs.Ytjcbmeannhafjaa

open Go.RowKit Go.Deep

/-- The index of the first table with a name. -/
def fndL (name : ByteArray) : List TB → Nat → Int
  | [], _ => -1
  | t :: r, k => if t.s = name then k else fndL name r (k + 1)
theorem fndL_drop (name : ByteArray) (ts : List TB) (k : Nat) (h : k < ts.length) : fndL name (ts.drop k) k = if ts[k].s = name then (k : Int) else fndL name (ts.drop (k + 1)) (k + 1) := by
  rw [List.drop_eq_getElem_cons h]; rfl
theorem fndL_end (name : ByteArray) (ts : List TB) (k : Nat) (h : ts.length ≤ k) : fndL name (ts.drop k) k = -1 := by
  rw [List.drop_eq_nil_of_le h]; rfl
theorem str_ne {a b : ByteArray} (h : ¬ a = b) : (a.toList == b.toList) = false := by
  rw [beq_eq_false_iff_ne]; intro e; exact h ((toList_inj _ _).1 e)

set_option maxHeartbeats 1000000 in
theorem sFind_any {P : Nat → Prop} (v : Value) (s : SC) (name : ByteArray) (w : World) (h : Sc P w v s) : Calls Try.prog 25 #[v, .string name] w fun e w' => e = .returned (.int .i64 (fndL name s.ts 0)) ∧ Below w.heap.size w w' := by
  obtain ⟨tv, rfl, hs⟩ := h
  obtain ⟨a, c, rfl, hf⟩ := hs.shape
  have hfew := hf.few
  have H := Lib.hid hs
  obtain ⟨n, hn⟩ : ∃ n, s.ts.length = n := ⟨_, rfl⟩
  obtain ⟨z, hz⟩ : ∃ z, fndL name (s.ts.drop 0) 0 = z := ⟨_, rfl⟩
  rw [show fndL name s.ts 0 = fndL name (s.ts.drop 0) 0 from rfl, hz]
  have HZ := Lib.hid hz
  have HN := Lib.hid hn
  rw [hn] at H hfew ⊢
  clear hs hf hn hz
  obtain ⟨W1, hW1⟩ : ∃ W1, w.alloc (.cells #[.int .i64 s.ver, .slice a n c] 25) = W1 := ⟨_, rfl⟩
  have HB0 : Hid (Below w.heap.size w W1) := by rw [← hW1]; exact (Below.refl _ _).alloc (Nat.le_refl _) _
  have hs1 : w.heap.size < W1.heap.size := by rw [← hW1]; simp
  have HC1 : Hid (W1.cell? ⟨w.heap.size, 1, none⟩ = some (.slice a n c)) := by show _ = _; subst hW1; go_simp
  have hc1 := HC1.out
  go_enter Try.func25, Try.ntmps25
  go_wp2_with fail
  try rw [hW1]
  clear hW1
  clear hc1
  go_loopw [10] (fun i wr => ∃ k : Nat, k ≤ n ∧ i = .int .i64 k ∧ Hid (fndL name (s.ts.drop k) k = z) ∧ Hid (Below W1.heap.size W1 wr)) (fun i _ => n - (intOf i).toNat)
  case atStart => exact ⟨0, by omega, rfl, HZ, Below.refl _ _⟩
  case round =>
    obtain ⟨k, hk, rfl, HT, HX⟩ := hrel
    clear HZ
    have hzz := HX.out.size
    have hc1 : wr.cell? ⟨w.heap.size, 1, none⟩ = some (.slice a n c) := (HX.out.cell (p := ⟨w.heap.size, 1, none⟩) hs1).trans HC1.out
    have HW : Hid (Below w.heap.size w wr) := HB0.out.trans (HX.out.mono (by omega))
    by_cases hlt : k < n
    · have hlt' : (k : Int) < n := by omega
      have hkc : k < s.ts.length := by rw [HN.out]; exact hlt
      obtain ⟨b, off, rfl, -, hb, ca, cc, ra, rc, pa, pc, c0, c1, c2, c3, c4, -⟩ := tab_get (H.out.below HW.out) hkc
      have HD := Lib.hid (fndL_drop name s.ts k hkc)
      generalize s.ts[k].s = x0 at *
      generalize s.ts[k].cs.length = x1 at *
      generalize s.ts[k].key = x2 at *
      generalize s.ts[k].rs.length = x3 at *
      generalize s.ts[k].ck.length = x4 at *
      by_cases hx : x0 = name
      · have HR : Hid (z = k) := by show _ = _; rw [← HT.out, HD.out, if_pos hx]
        subst hx
        clear HD HT
        go_wp2_with fail
        go_ret
        exact ⟨by rw [HR.out]; rfl, HW.out.trans (by (repeat (first | exact Below.refl _ _ | assumption | refine Below.drew ?_ | refine Below.setCell ?_ (by first | omega | (simp only [World.size_alloc]; omega) | (simp; try omega)) _ | refine Below.alloc ?_ (by first | omega | (simp only [World.size_alloc]; omega) | (simp; try omega)) _)))⟩
      · have HR : Hid (fndL name (s.ts.drop (k + 1)) (k + 1) = z) := by show _ = _; rw [← HT.out, HD.out, if_neg hx]
        have hx' := str_ne hx
        clear HD HT hx
        go_wp2_with fail
        go_roundw
        case rel => exact ⟨k + 1, by omega, by go_num, HR, HX.out.alloc (by omega) _⟩
        case measure => simp [intOf]; omega
    · have HR : Hid (z = -1) := by show _ = _; rw [← HT.out]; exact fndL_end _ _ _ (by rw [HN.out]; omega)
      go_wp2_with fail
      go_ret
      exact ⟨by rw [HR.out]; rfl, HW.out⟩

set_option maxHeartbeats 1000000 in
theorem rFind_any {P : Nat → Prop} (v : Value) (s : SC) (name : ByteArray) (w : World) (h : Sc P w v s) : Calls Try.prog 15 #[v, .string name] w fun e w' => e = .returned (.int .i64 (fndL name s.ts 0)) ∧ Below w.heap.size w w' := by
  obtain ⟨tv, rfl, hs⟩ := h
  obtain ⟨a, c, rfl, hf⟩ := hs.shape
  have hfew := hf.few
  have H := Lib.hid hs
  obtain ⟨n, hn⟩ : ∃ n, s.ts.length = n := ⟨_, rfl⟩
  obtain ⟨z, hz⟩ : ∃ z, fndL name (s.ts.drop 0) 0 = z := ⟨_, rfl⟩
  rw [show fndL name s.ts 0 = fndL name (s.ts.drop 0) 0 from rfl, hz]
  have HZ := Lib.hid hz
  have HN := Lib.hid hn
  rw [hn] at H hfew ⊢
  clear hs hf hn hz
  obtain ⟨W1, hW1⟩ : ∃ W1, w.alloc (.cells #[.int .i64 s.ver, .slice a n c] 25) = W1 := ⟨_, rfl⟩
  have HB0 : Hid (Below w.heap.size w W1) := by rw [← hW1]; exact (Below.refl _ _).alloc (Nat.le_refl _) _
  have hs1 : w.heap.size < W1.heap.size := by rw [← hW1]; simp
  have HC1 : Hid (W1.cell? ⟨w.heap.size, 1, none⟩ = some (.slice a n c)) := by show _ = _; subst hW1; go_simp
  have hc1 := HC1.out
  go_enter Try.func15, Try.ntmps15
  go_wp2_with fail
  try rw [hW1]
  clear hW1
  clear hc1
  go_loopw [9] (fun i wr => ∃ k : Nat, k ≤ n ∧ i = .int .i64 k ∧ Hid (fndL name (s.ts.drop k) k = z) ∧ Hid (Below W1.heap.size W1 wr)) (fun i _ => n - (intOf i).toNat)
  case atStart => exact ⟨0, by omega, rfl, HZ, Below.refl _ _⟩
  case round =>
    obtain ⟨k, hk, rfl, HT, HX⟩ := hrel
    clear HZ
    have hzz := HX.out.size
    have hc1 : wr.cell? ⟨w.heap.size, 1, none⟩ = some (.slice a n c) := (HX.out.cell (p := ⟨w.heap.size, 1, none⟩) hs1).trans HC1.out
    have HW : Hid (Below w.heap.size w wr) := HB0.out.trans (HX.out.mono (by omega))
    by_cases hlt : k < n
    · have hlt' : (k : Int) < n := by omega
      have hkc : k < s.ts.length := by rw [HN.out]; exact hlt
      obtain ⟨b, off, rfl, -, hb, ca, cc, ra, rc, pa, pc, c0, c1, c2, c3, c4, -⟩ := tab_get (H.out.below HW.out) hkc
      have HD := Lib.hid (fndL_drop name s.ts k hkc)
      generalize s.ts[k].s = x0 at *
      generalize s.ts[k].cs.length = x1 at *
      generalize s.ts[k].key = x2 at *
      generalize s.ts[k].rs.length = x3 at *
      generalize s.ts[k].ck.length = x4 at *
      by_cases hx : x0 = name
      · have HR : Hid (z = k) := by show _ = _; rw [← HT.out, HD.out, if_pos hx]
        subst hx
        clear HD HT
        go_wp2_with fail
        go_ret
        exact ⟨by rw [HR.out]; rfl, HW.out.trans (by (repeat (first | exact Below.refl _ _ | assumption | refine Below.drew ?_ | refine Below.setCell ?_ (by first | omega | (simp only [World.size_alloc]; omega) | (simp; try omega)) _ | refine Below.alloc ?_ (by first | omega | (simp only [World.size_alloc]; omega) | (simp; try omega)) _)))⟩
      · have HR : Hid (fndL name (s.ts.drop (k + 1)) (k + 1) = z) := by show _ = _; rw [← HT.out, HD.out, if_neg hx]
        have hx' := str_ne hx
        clear HD HT hx
        go_wp2_with fail
        go_roundw
        case rel => exact ⟨k + 1, by omega, by go_num, HR, HX⟩
        case measure => simp [intOf]; omega
    · have HR : Hid (z = -1) := by show _ = _; rw [← HT.out]; exact fndL_end _ _ _ (by rw [HN.out]; omega)
      go_wp2_with fail
      go_ret
      exact ⟨by rw [HR.out]; rfl, HW.out⟩

end Go.Proofs.Ytjcbmeannhafjaa

/- Schemas: which rows fit a table: cellFits, Fits of the program. -/
namespace Go.Proofs.Ytjcbmeannhafjaa

open Go.RowKit Go.Deep

def fitL (key mode : Int) : Nat → List CL → List V → Bool
  | k, c :: cs, v :: l => fitB c.k k key mode v && fitL key mode (k + 1) cs l
  | _, _, _ => true
theorem fitL_drop (key mode : Int) (cs : List CL) (l : List V) (k : Nat) (h1 : k < cs.length) (h2 : k < l.length) : fitL key mode k (cs.drop k) (l.drop k) = (fitB cs[k].k k key mode l[k] && fitL key mode (k + 1) (cs.drop (k + 1)) (l.drop (k + 1))) := by
  rw [List.drop_eq_getElem_cons h1, List.drop_eq_getElem_cons h2]; rfl
theorem fitL_end (key mode : Int) (cs : List CL) (l : List V) (k : Nat) (h : l.length ≤ k) : fitL key mode k (cs.drop k) (l.drop k) = true := by
  rw [List.drop_eq_nil_of_le h]; cases cs.drop k <;> rfl
def fitsT (s : SC) (i : Int) (l : List V) (mode : Int) : Bool := inT s i && (decide (1 ≤ mode ∧ mode ≤ 3) && (decide (l.length = (tbAt s i).cs.length) && fitL (tbAt s i).key mode 0 (tbAt s i).cs l))

set_option maxHeartbeats 1000000 in
theorem sCellFits_any (x0 : ByteArray) (ca : Option Addr) (n cc : Nat) (key : Int) (x3 x4 : Value) (k : Nat) (ck : Int) (v : V) (mode : Int) (w : World) (hk : k < n) (b off : Nat) (ha : ca = some ⟨b, off, none⟩) (hb : b < w.heap.size) (hc : w.cell? ⟨b, off + k * 2 + 1, none⟩ = some (.int .i64 ck)) :
    Calls Try.prog 60 #[.agg #[.string x0, .slice ca n cc, .int .i64 key, x3, x4], .int .i64 k, .agg #[.int .i64 v.k, .int .i64 v.n, .string v.s], .int .i64 mode] w fun e w' => e = .returned (.bool (fitB ck k key mode v)) ∧ Below w.heap.size w w' := by
  subst ha
  obtain ⟨vk, vn, vs⟩ := v
  obtain ⟨z, hz⟩ : ∃ z, fitB ck k key mode ⟨vk, vn, vs⟩ = z := ⟨_, rfl⟩
  rw [hz]
  have HV := Lib.hid (vValid_any vk vn vs)
  have hlt' : (k : Int) < n := by omega
  obtain ⟨vb, hvb⟩ : ∃ vb, vldB vk vn vs = vb := ⟨_, rfl⟩
  unfold fitB at hz
  simp only [hvb] at hz HV
  have HZ := Lib.hid hz
  clear hz hvb
  obtain ⟨W1, hW1⟩ : ∃ W1, (w.alloc (.cells #[.string x0, .slice (some ⟨b, off, none⟩) n cc, .int .i64 key, x3, x4] 40)).alloc (.cells #[.int .i64 vk, .int .i64 vn, .string vs] 57) = W1 := ⟨_, rfl⟩
  have hzs : w.heap.size + 2 ≤ W1.heap.size := by rw [← hW1]; simp
  have HB : Hid (Below w.heap.size w W1) := by rw [← hW1]; exact ((Below.refl _ _).alloc (Nat.le_refl _) _).alloc (by simp) _
  have q1 : W1.cell? ⟨w.heap.size, 1, none⟩ = some (.slice (some ⟨b, off, none⟩) n cc) := by subst hW1; go_simp
  have q2 : W1.cell? ⟨w.heap.size, 2, none⟩ = some (.int .i64 key) := by subst hW1; go_simp
  have q3 : W1.cell? ⟨w.heap.size + 1, 0, none⟩ = some (.int .i64 vk) := by subst hW1; go_simp
  have HK : Hid (∀ W, Below W1.heap.size W1 W → W.cell? ⟨w.heap.size, 1, none⟩ = some (.slice (some ⟨b, off, none⟩) n cc) ∧ W.cell? ⟨w.heap.size, 2, none⟩ = some (.int .i64 key) ∧ W.cell? ⟨w.heap.size + 1, 0, none⟩ = some (.int .i64 vk) ∧ W.cell? ⟨b, off + k * 2 + 1, none⟩ = some (.int .i64 ck)) := fun W hW =>
    ⟨(hW.cell (p := ⟨w.heap.size, 1, none⟩) (show w.heap.size < _ by omega)).trans q1, (hW.cell (p := ⟨w.heap.size, 2, none⟩) (show w.heap.size < _ by omega)).trans q2, (hW.cell (p := ⟨w.heap.size + 1, 0, none⟩) (show w.heap.size + 1 < _ by omega)).trans q3, (hW.cell (p := ⟨b, off + k * 2 + 1, none⟩) (show b < _ by omega)).trans ((HB.out.cell (p := ⟨b, off + k * 2 + 1, none⟩) hb).trans hc)⟩
  clear q1 q2 q3 hc
  have HN1 := Lib.hid hW1
  clear hW1
  cases vb with
  | false =>
    have HR : Hid (z = false) := by show _ = _; rw [← HZ.out]; rfl
    clear HZ
    go_enter Try.func60, Try.ntmps60
    go_wp2_with fail
    refine (HV.out _).mono ?_
    rintro e w1 ⟨rfl, hv⟩
    (rw [HN1.out] at hv); obtain ⟨q1, q2, q3, q4⟩ := HK.out w1 hv.below; have HV1 := Lib.hid hv; clear hv
    go_wp2_with fail
    go_ret
    exact ⟨by rw [HR.out]; rfl, HB.out.trans (HV1.out.below.mono (by omega))⟩
  | true =>
    by_cases h1 : vk = ck
    · have HR : Hid (z = true) := by show _ = _; rw [← HZ.out, h1]; simp
      clear HZ
      subst h1
      go_enter Try.func60, Try.ntmps60
      go_wp2_with fail
      refine (HV.out _).mono ?_
      rintro e w1 ⟨rfl, hv⟩
      (rw [HN1.out] at hv); obtain ⟨q1, q2, q3, q4⟩ := HK.out w1 hv.below; have HV1 := Lib.hid hv; clear hv
      go_wp2_with fail
      go_ret
      exact ⟨by rw [HR.out]; rfl, HB.out.trans (HV1.out.below.mono (by omega))⟩
    · have e1 : (vk == ck) = false := by simpa using h1
      by_cases h2 : vk = 2
      · subst h2
        by_cases hg : key ≤ (k : Int)
        · have HR : Hid (z = (mode != 1)) := by show _ = _; rw [← HZ.out, e1]; simp [hg]
          have g1 : decide (key ≤ (k : Int)) = true := by simpa using hg
          clear HZ h1 hg
          go_enter Try.func60, Try.ntmps60
          go_wp2_with fail
          refine (HV.out _).mono ?_
          rintro e w1 ⟨rfl, hv⟩
          (rw [HN1.out] at hv); obtain ⟨q1, q2, q3, q4⟩ := HK.out w1 hv.below; have HV1 := Lib.hid hv; clear hv
          go_wp2_with fail
          go_ret
          exact ⟨by rw [HR.out]; rfl, HB.out.trans (HV1.out.below.mono (by omega))⟩
        · have HR : Hid (z = false) := by show _ = _; rw [← HZ.out, e1]; simp [hg]
          have g1 : decide (key ≤ (k : Int)) = false := by simpa using hg
          clear HZ h1 hg
          go_enter Try.func60, Try.ntmps60
          go_wp2_with fail
          refine (HV.out _).mono ?_
          rintro e w1 ⟨rfl, hv⟩
          (rw [HN1.out] at hv); obtain ⟨q1, q2, q3, q4⟩ := HK.out w1 hv.below; have HV1 := Lib.hid hv; clear hv
          go_wp2_with fail
          go_ret
          exact ⟨by rw [HR.out]; rfl, HB.out.trans (HV1.out.below.mono (by omega))⟩
      · have e2 : (vk == 2) = false := by simpa using h2
        by_cases h3 : vk = 1
        · subst h3
          by_cases hg : key ≤ (k : Int)
          · have HR : Hid (z = (mode == 3)) := by show _ = _; rw [← HZ.out, e1]; simp [hg]
            have g1 : decide (key ≤ (k : Int)) = true := by simpa using hg
            clear HZ h1 h2 hg
            go_enter Try.func60, Try.ntmps60
            go_wp2_with fail
            refine (HV.out _).mono ?_
            rintro e w1 ⟨rfl, hv⟩
            (rw [HN1.out] at hv); obtain ⟨q1, q2, q3, q4⟩ := HK.out w1 hv.below; have HV1 := Lib.hid hv; clear hv
            go_wp2_with fail
            go_ret
            exact ⟨by rw [HR.out]; rfl, HB.out.trans (HV1.out.below.mono (by omega))⟩
          · have HR : Hid (z = false) := by show _ = _; rw [← HZ.out, e1]; simp [hg]
            have g1 : decide (key ≤ (k : Int)) = false := by simpa using hg
            clear HZ h1 h2 hg
            go_enter Try.func60, Try.ntmps60
            go_wp2_with fail
            refine (HV.out _).mono ?_
            rintro e w1 ⟨rfl, hv⟩
            (rw [HN1.out] at hv); obtain ⟨q1, q2, q3, q4⟩ := HK.out w1 hv.below; have HV1 := Lib.hid hv; clear hv
            go_wp2_with fail
            go_ret
            exact ⟨by rw [HR.out]; rfl, HB.out.trans (HV1.out.below.mono (by omega))⟩
        · have e3 : (vk == 1) = false := by simpa using h3
          have HR : Hid (z = false) := by show _ = _; rw [← HZ.out, e1, e2, e3]; rfl
          clear HZ h1 h2 h3
          go_enter Try.func60, Try.ntmps60
          go_wp2_with fail
          refine (HV.out _).mono ?_
          rintro e w1 ⟨rfl, hv⟩
          (rw [HN1.out] at hv); obtain ⟨q1, q2, q3, q4⟩ := HK.out w1 hv.below; have HV1 := Lib.hid hv; clear hv
          go_wp2_with fail
          go_ret
          exact ⟨by rw [HR.out]; rfl, HB.out.trans (HV1.out.below.mono (by omega))⟩

set_option maxRecDepth 100000 in
set_option maxHeartbeats 2000000 in
theorem sFits_any {P : Nat → Prop} (v : Value) (s : SC) (i : Int) (rv : Value) (l : List V) (mode : Int) (w : World) (h : Sc P w v s) (hr : RowAt w rv l) : Calls Try.prog 35 #[v, .int .i64 i, rv, .int .i64 mode] w fun e w' => e = .returned (.bool (fitsT s i l mode)) ∧ Below w.heap.size w w' := by
  have HT := Lib.hid (fun O => sTableAt_any v s i (w.alloc O) (h.below ((Below.refl _ _).alloc (Nat.le_refl _) O)))
  obtain ⟨tv, rfl, hs⟩ := h
  have HRW := Lib.hid hr
  obtain ⟨ra, rc, rfl, hlen, -⟩ := hr
  clear hs
  obtain ⟨z, hz⟩ : ∃ z, fitsT s i l mode = z := ⟨_, rfl⟩
  rw [hz]
  have HZ := Lib.hid hz
  obtain ⟨m, hm⟩ : ∃ m, l.length = m := ⟨_, rfl⟩
  have HM := Lib.hid hm
  rw [hm] at HRW hlen ⊢
  obtain ⟨u, hu⟩ : ∃ u, inT s i = u := ⟨_, rfl⟩
  have HU := Lib.hid hu
  unfold TabPost at HT
  rw [hu] at HT
  clear hz hm hu
  go_enter Try.func35, Try.ntmps35
  go_wp2_with fail
  refine (HT.out _).mono ?_
  rintro e w1 ⟨ca, cc, rfa, rfc, pa, pc, rfl, ht, hb⟩
  have HB1 : Hid (Below w.heap.size w w1) := ((Below.refl _ _).alloc (Nat.le_refl _) _).trans (hb.mono (by simp))
  have HC := Lib.hid ht.cols
  clear HT ht hb
  have HZ2 : Hid ((u && (decide (1 ≤ mode ∧ mode ≤ 3) && (decide (m = (tbAt s i).cs.length) && fitL (tbAt s i).key mode 0 (tbAt s i).cs l))) = z) := by
    show _ = _; rw [← HZ.out]; unfold fitsT; rw [HU.out, HM.out]
  clear HZ
  unfold tbV
  generalize (tbAt s i).cs = cs at *
  generalize (tbAt s i).s = x0 at *
  generalize (tbAt s i).key = key at *
  generalize (tbAt s i).rs.length = x3 at *
  generalize (tbAt s i).ck.length = x4 at *
  obtain ⟨n, hn⟩ : ∃ n, cs.length = n := ⟨_, rfl⟩
  have HN := Lib.hid hn
  rw [hn] at HC HZ2 ⊢
  have hfew : n ≤ 17592186044416 := by obtain ⟨_, _, _, hf⟩ := HC.out.shape; rw [hn] at hf; exact hf.few
  have hsz1 := HB1.out.size
  clear hn
  cases u with
  | false =>
    have HR : Hid (z = false) := by show _ = _; rw [← HZ2.out]; rfl
    clear HZ2
    go_wp2_with fail
    go_ret
    exact ⟨by rw [HR.out]; rfl, HB1.out.trans (by (repeat (first | exact Below.refl _ _ | assumption | refine Below.drew ?_ | refine Below.setCell ?_ (by first | omega | (simp only [World.size_alloc]; omega) | (simp; try omega)) _ | refine Below.alloc ?_ (by first | omega | (simp only [World.size_alloc]; omega) | (simp; try omega)) _)))⟩
  | true =>
    by_cases hm1 : mode < 1
    · have HR : Hid (z = false) := by show _ = _; rw [← HZ2.out, decide_eq_false (p := 1 ≤ mode ∧ mode ≤ 3) (by omega)]; rfl
      have d1 : decide (mode < 1) = true := by simpa using hm1
      clear HZ2
      go_wp2_with fail
      go_ret
      exact ⟨by rw [HR.out]; rfl, HB1.out.trans (by (repeat (first | exact Below.refl _ _ | assumption | refine Below.drew ?_ | refine Below.setCell ?_ (by first | omega | (simp only [World.size_alloc]; omega) | (simp; try omega)) _ | refine Below.alloc ?_ (by first | omega | (simp only [World.size_alloc]; omega) | (simp; try omega)) _)))⟩
    · have d1 : decide (mode < 1) = false := by simpa using hm1
      by_cases hm3 : 3 < mode
      · have HR : Hid (z = false) := by show _ = _; rw [← HZ2.out, decide_eq_false (p := 1 ≤ mode ∧ mode ≤ 3) (by omega)]; rfl
        have d2 : decide (3 < mode) = true := by simpa using hm3
        clear HZ2
        go_wp2_with fail
        go_ret
        exact ⟨by rw [HR.out]; rfl, HB1.out.trans (by (repeat (first | exact Below.refl _ _ | assumption | refine Below.drew ?_ | refine Below.setCell ?_ (by first | omega | (simp only [World.size_alloc]; omega) | (simp; try omega)) _ | refine Below.alloc ?_ (by first | omega | (simp only [World.size_alloc]; omega) | (simp; try omega)) _)))⟩
      · have d2 : decide (3 < mode) = false := by simpa using hm3
        have HZ3 : Hid ((decide (m = n) && fitL key mode 0 cs l) = z) := by show _ = _; rw [← HZ2.out, decide_eq_true (p := 1 ≤ mode ∧ mode ≤ 3) (by omega)]; rfl
        clear HZ2 hm1 hm3
        by_cases hmn : m = n
        · subst hmn
          have HZ4 : Hid (fitL key mode 0 (cs.drop 0) (l.drop 0) = z) := by show _ = _; rw [← HZ3.out]; simp
          clear HZ3
          obtain ⟨wb, hwb⟩ : ∃ wb, w1.alloc (.cells #[.string x0, .slice ca m cc, .int .i64 key, .slice rfa x3 rfc, .slice pa x4 pc] 40) = wb := ⟨_, rfl⟩
          have BB : Hid (Below w1.heap.size w1 wb) := by rw [← hwb]; exact (Below.refl _ _).alloc (Nat.le_refl _) _
          have hbz : w1.heap.size < wb.heap.size := by rw [← hwb]; simp
          have a0 : wb.cell? ⟨w1.heap.size, 0, none⟩ = some (.string x0) := by subst hwb; go_simp
          have a1 : wb.cell? ⟨w1.heap.size, 1, none⟩ = some (.slice ca m cc) := by subst hwb; go_simp
          have a2 : wb.cell? ⟨w1.heap.size, 2, none⟩ = some (.int .i64 key) := by subst hwb; go_simp
          have a3 : wb.cell? ⟨w1.heap.size, 3, none⟩ = some (.slice rfa x3 rfc) := by subst hwb; go_simp
          have a4 : wb.cell? ⟨w1.heap.size, 4, none⟩ = some (.slice pa x4 pc) := by subst hwb; go_simp
          have HK : Hid (∀ W, Below wb.heap.size wb W → W.cell? ⟨w1.heap.size, 0, none⟩ = some (.string x0) ∧ W.cell? ⟨w1.heap.size, 1, none⟩ = some (.slice ca m cc) ∧ W.cell? ⟨w1.heap.size, 2, none⟩ = some (.int .i64 key) ∧ W.cell? ⟨w1.heap.size, 3, none⟩ = some (.slice rfa x3 rfc) ∧ W.cell? ⟨w1.heap.size, 4, none⟩ = some (.slice pa x4 pc)) := fun W hW =>
            ⟨(hW.cell (p := ⟨w1.heap.size, 0, none⟩) hbz).trans a0, (hW.cell (p := ⟨w1.heap.size, 1, none⟩) hbz).trans a1, (hW.cell (p := ⟨w1.heap.size, 2, none⟩) hbz).trans a2, (hW.cell (p := ⟨w1.heap.size, 3, none⟩) hbz).trans a3, (hW.cell (p := ⟨w1.heap.size, 4, none⟩) hbz).trans a4⟩
          have HWB : Hid (Below w.heap.size w wb) := HB1.out.trans (BB.out.mono hsz1)
          clear a0
          go_wp2_with fail
          try rw [hwb]
          clear hwb a1 a2 a3 a4
          go_loopw [39] (fun i wr => ∃ k : Nat, k ≤ m ∧ i = .int .i64 k ∧ Hid (fitL key mode k (cs.drop k) (l.drop k) = z) ∧ Hid (Below wb.heap.size wb wr)) (fun i _ => m - (intOf i).toNat)
          case atStart => exact ⟨0, by omega, rfl, HZ4, Below.refl _ _⟩
          case round =>
            obtain ⟨k, hk, rfl, HT, HX⟩ := hrel
            clear HZ4
            have hzz := HX.out.size
            obtain ⟨a0, a1, a2, a3, a4⟩ := HK.out wr HX.out
            have hw1r : w1.heap.size < wr.heap.size := by omega
            have HW : Hid (Below w.heap.size w wr) := HWB.out.trans (HX.out.mono HWB.out.size)
            have HW1 : Hid (Below w1.heap.size w1 wr) := BB.out.trans (HX.out.mono (by omega))
            by_cases hlt : k < m
            · have hlt' : (k : Int) < m := by omega
              have hkc : k < cs.length := by rw [HN.out]; exact hlt
              have hkl : k < l.length := by rw [HM.out]; exact hlt
              obtain ⟨cb, coff, rfl, -, hcb, -, c1⟩ := col_get (HC.out.below HW1.out) hkc
              obtain ⟨ra', rc', e', -, hcell⟩ := HRW.out.blw HW.out
              simp only [Value.slice.injEq] at e'
              obtain ⟨rfl, -, rfl⟩ := e'
              obtain ⟨rb, roff, rfl, hrb, r0, r1, r2⟩ := hcell k hkl
              have HD := Lib.hid (fitL_drop key mode cs l k hkc hkl)
              have HCF : Hid (∀ O, Calls Try.prog 60 #[.agg #[.string x0, .slice (some ⟨cb, coff, none⟩) m cc, .int .i64 key, .slice rfa x3 rfc, .slice pa x4 pc], .int .i64 k, .agg #[.int .i64 l[k].k, .int .i64 l[k].n, .string l[k].s], .int .i64 mode] (wr.alloc O) fun e w' => e = .returned (.bool (fitB cs[k].k k key mode l[k])) ∧ Below (wr.alloc O).heap.size (wr.alloc O) w') := fun O =>
                sCellFits_any x0 _ m cc key _ _ k _ _ mode (wr.alloc O) hlt cb coff rfl (by simp; omega) ((((Below.refl wr.heap.size wr).alloc (Nat.le_refl _) O).cell (p := ⟨cb, coff + k * 2 + 1, none⟩) hcb).trans c1)
              obtain ⟨y, hy⟩ : ∃ y, fitB cs[k].k k key mode l[k] = y := ⟨_, rfl⟩
              rw [hy] at HD HCF
              clear hy c1 hcell
              generalize l[k].k = v0 at *
              generalize l[k].n = v1 at *
              generalize l[k].s = v2 at *
              go_wp2_with fail
              refine (HCF.out _).mono ?_
              rintro e w2 ⟨rfl, hb2⟩
              have HX2 : Hid (Below wb.heap.size wb w2) := (HX.out.alloc hzz _).trans (hb2.mono (by simp; omega))
              clear hb2 HCF
              cases y with
              | true =>
                have HR : Hid (fitL key mode (k + 1) (cs.drop (k + 1)) (l.drop (k + 1)) = z) := by show _ = _; rw [← HT.out, HD.out]; rfl
                clear HD HT
                go_wp2_with fail
                go_roundw
                case rel => exact ⟨k + 1, by omega, by go_num, HR, HX2⟩
                case measure => simp [intOf]; omega
              | false =>
                have HR : Hid (z = false) := by show _ = _; rw [← HT.out, HD.out]; rfl
                clear HD HT
                go_wp2_with fail
                go_ret
                exact ⟨by rw [HR.out]; rfl, HWB.out.trans (HX2.out.mono HWB.out.size)⟩
            · have HR : Hid (z = true) := by show _ = _; rw [← HT.out]; exact fitL_end _ _ _ _ _ (by rw [HM.out]; omega)
              go_wp2_with fail
              go_ret
              exact ⟨by rw [HR.out]; rfl, HW.out⟩
        · have HR : Hid (z = false) := by show _ = _; rw [← HZ3.out, decide_eq_false hmn]; rfl
          have d3 : (m != n) = true := by simpa using hmn
          have d4 : ((m : Int) != n) = true := by simp; omega
          clear HZ3
          go_wp2_with fail
          go_ret
          exact ⟨by rw [HR.out]; rfl, HB1.out.trans (by (repeat (first | exact Below.refl _ _ | assumption | refine Below.drew ?_ | refine Below.setCell ?_ (by first | omega | (simp only [World.size_alloc]; omega) | (simp; try omega)) _ | refine Below.alloc ?_ (by first | omega | (simp only [World.size_alloc]; omega) | (simp; try omega)) _)))⟩
end Go.Proofs.Ytjcbmeannhafjaa
