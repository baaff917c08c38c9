
/- predicate.everyNode with each of its closures. -/
import Derived.Test.YtjcbmeannhafjaaPdMath

import Derived.Test.YtjcbmeannhafjaaVal

namespace Go.Proofs.Ytjcbmeannhafjaa

open Go.RowKit

theorem pd_fieldsP {Q : Nat → Prop} {W : World} {v : Value} {p : PT} (h : PdAt Q W v p) : ∃ op cmp lk li lvk lvn lvs rk ri rvk rvn rvs ps a c, p = .mk op cmp ⟨lk, li, ⟨lvk, lvn, lvs⟩⟩ ⟨rk, ri, ⟨rvk, rvn, rvs⟩⟩ ps ∧
    v = .agg #[.int .i64 op, .int .i64 cmp, .int .i64 lk, .int .i64 li, .int .i64 lvk, .int .i64 lvn, .string lvs, .int .i64 rk, .int .i64 ri, .int .i64 rvk, .int .i64 rvn, .string rvs, .slice a ps.length c] ∧ PdS Q W ps a c := by
  obtain ⟨a, c, rfl, h⟩ := h
  obtain ⟨op, cmp, ⟨lk, li, ⟨lvk, lvn, lvs⟩⟩, ⟨rk, ri, ⟨rvk, rvn, rvs⟩⟩, ps⟩ := p
  exact ⟨op, cmp, lk, li, lvk, lvn, lvs, rk, ri, rvk, rvn, rvs, ps, a, c, rfl, rfl, h⟩
/-- A predicate whose blocks lie below B stays where the blocks below B stay. -/
theorem PdAt.under {B : Nat} {w w' : World} {v : Value} {p : PT} (h : PdAt (fun b => b < B) w v p) (hb : Below B w w') : PdAt (fun b => b < B) w' v p := h.keep hb.size fun b hlt _ => hb.block b hlt
theorem PdS.under {B : Nat} {w w' : World} {ps : List PT} {a : Option Addr} {c : Nat} (h : PdS (fun b => b < B) w ps a c) (hb : Below B w w') : PdS (fun b => b < B) w' ps a c := h.keep hb.size fun b hlt _ => hb.block b hlt
mutual
theorem PdC.lt {W : World} : ∀ (p : PT) (b o : Nat), PdC (fun _ => True) W p b o → PdC (fun b => b < W.heap.size) W p b o
  | .mk op cmp l r args, b, o, h => by
    unfold PdC at h ⊢
    obtain ⟨h0, h1, h2, h3, a, c, h4, h5, h6⟩ := h
    refine ⟨h0, h1, h2, h3, a, c, h4, h5, ?_⟩
    rcases h6 with h6 | ⟨b', o', ha, hP, hl, hps⟩
    · exact .inl h6
    · exact .inr ⟨b', o', ha, hl, hl, PdL.lt args b' o' hps⟩
theorem PdL.lt {W : World} : ∀ (ps : List PT) (b o : Nat), PdL (fun _ => True) W ps b o → PdL (fun b => b < W.heap.size) W ps b o
  | [], _, _, _ => by unfold PdL; trivial
  | p :: t, b, o, h => by
    unfold PdL at h ⊢
    exact ⟨PdC.lt p b o h.1, PdL.lt t b (o + 13) h.2⟩
end
theorem PdAt.lt {W : World} {v : Value} {p : PT} (h : Pd W v p) : PdAt (fun b => b < W.heap.size) W v p := by
  obtain ⟨a, c, e, h1, h2⟩ := h
  refine ⟨a, c, e, h1, ?_⟩
  rcases h2 with h2 | ⟨b', o', ha, hP, hl, hps⟩
  · exact .inl h2
  · exact .inr ⟨b', o', ha, hl, hl, PdL.lt p.args b' o' hps⟩

def EvPost {σ : Type} (r : Option σ) (B : Nat) (Inv : σ → World → Prop) (Safe : Nat → World → Prop) (w : World) (e : Ending) (w' : World) : Prop :=
  e = .returned (.bool r.isSome) ∧ Below B w w' ∧ ∀ s', r = some s' → Inv s' w' ∧ ∀ k, k < w.heap.size → Safe k w → w'.heap[k]? = w.heap[k]? ∧ Safe k w'
/-- What everyNode asks of its closure. -/
structure Clo (σ : Type) (f : σ → PT → Int → Option σ) (B K bx : Nat) (Inv : σ → World → Prop) (Safe : Nat → World → Prop) (OK : σ → PT → Prop) (OKL : σ → List PT → Prop) : Prop where
  inv : ∀ s w w', Inv s w → Below w.heap.size w w' → Inv s w'
  lt : ∀ s w, Inv s w → B ≤ w.heap.size
  safe : ∀ s w w' k, Inv s w → Below w.heap.size w w' → Safe k w → Safe k w'
  new : ∀ s w w' k, Inv s w → Below w.heap.size w w' → w.heap.size ≤ k → Safe k w'
  args : ∀ s s1 p d, OK s p → f s p d = some s1 → OKL s1 (p.args.drop 0)
  head : ∀ s (ps : List PT) k (h : k < ps.length), OKL s (ps.drop k) → OK s ps[k]
  tail : ∀ s s1 (ps : List PT) k (h : k < ps.length) d, OKL s (ps.drop k) → walkP f s ps[k] d = some s1 → OKL s1 (ps.drop (k + 1))
  call : ∀ s p d v w, OK s p → Inv s w → PdAt (fun b => b < B) w v p → Calls Try.prog K #[v, .int .i64 d, .pointer (some ⟨bx, 0, none⟩)] w (EvPost (f s p d) B Inv Safe w)
/-- What the call leaves as it was. -/
def Fr (Safe : Nat → World → Prop) (w w' : World) : Prop := ∀ k, k < w.heap.size → Safe k w → w'.heap[k]? = w.heap[k]? ∧ Safe k w'
theorem Fr.trans {Safe : Nat → World → Prop} {a b c : World} (h : Fr Safe a b) (k : Fr Safe b c) (hs : a.heap.size ≤ b.heap.size) : Fr Safe a c := fun i hi hS =>
  ⟨(k i (Nat.lt_of_lt_of_le hi hs) (h i hi hS).2).1.trans (h i hi hS).1, (k i (Nat.lt_of_lt_of_le hi hs) (h i hi hS).2).2⟩
theorem Fr.below {σ : Type} {f : σ → PT → Int → Option σ} {B K bx : Nat} {Inv : σ → World → Prop} {Safe : Nat → World → Prop} {OK : σ → PT → Prop} {OKL : σ → List PT → Prop} (C : Clo σ f B K bx Inv Safe OK OKL) {s : σ} {w w' : World} (hI : Inv s w) (hb : Below w.heap.size w w') : Fr Safe w w' := fun k hk hS =>
  ⟨hb.block k hk, C.safe s w w' k hI hb hS⟩


set_option maxRecDepth 100000 in
set_option maxHeartbeats 4000000 in
theorem every_Check {σ : Type} {f : σ → PT → Int → Option σ} {B bx : Nat} {Inv : σ → World → Prop} {Safe : Nat → World → Prop} {OK : σ → PT → Prop} {OKL : σ → List PT → Prop} (C : Clo σ f B 66 bx Inv Safe OK OKL) : ∀ (n : Nat) (p : PT), p.depth ≤ n → ∀ (s : σ) (d : Int) (v : Value) (w : World), OK s p → Inv s w → PdAt (fun b => b < B) w v p → Calls Try.prog 65 #[v, .int .i64 d, .func (.func 66) #[] #[.pointer (some ⟨bx, 0, none⟩)]] w (EvPost (walkP f s p d) B Inv Safe w)
  | 0, p, hd, _, _, _, _, _, _, _ => by have := p.depth_pos; omega
  | n + 1, p, hd, s, d, v, w, hok, hI, hp => by
    have IH : ∀ j (hj : j < p.args.length), ∀ (s : σ) (d : Int) (v : Value) (w : World), OK s p.args[j] → Inv s w → PdAt (fun b => b < B) w v p.args[j] → Calls Try.prog 65 #[v, .int .i64 d, .func (.func 66) #[] #[.pointer (some ⟨bx, 0, none⟩)]] w (EvPost (walkP f s p.args[j] d) B Inv Safe w) := fun j hj => every_Check C n _ (PT.depth_arg hj hd)
    have HCL : Hid (∀ W, Below w.heap.size w W → Calls Try.prog 66 #[v, .int .i64 d, .pointer (some ⟨bx, 0, none⟩)] W (EvPost (f s p d) B Inv Safe W)) := fun W hb => C.call s p d v W hok (C.inv s w W hI hb) (hp.under (hb.mono (C.lt s w hI)))
    have HW : Hid (∀ s1, f s p d = some s1 → walkP f s p d = walkL f s1 (p.args.drop 0) (nxD d)) := fun s1 h => walkP_some h
    have HW0 : Hid (f s p d = none → walkP f s p d = none) := fun h => walkP_none h
    have HC : Hid (Clo σ f B 66 bx Inv Safe OK OKL) := C
    have HO : Hid (∀ s1, f s p d = some s1 → OKL s1 (p.args.drop 0)) := fun s1 h => C.args s s1 p d hok h
    clear hok
    obtain ⟨d1, hd1⟩ : ∃ d1, nxD d = d1 := ⟨_, rfl⟩
    rw [hd1] at HW
    have e1 : IntKind.i64.wrap (d + 1) = d1 := hd1
    obtain ⟨r, hr⟩ : ∃ r, walkP f s p d = r := ⟨_, rfl⟩
    rw [hr] at HW HW0 ⊢
    have hlt := C.lt s w hI
    have HI := Lib.hid hI
    obtain ⟨op, cmp, lk, li, lvk, lvn, lvs, rk, ri, rvk, rvn, rvs, ps, a, c, rfl, rfl, hps⟩ := pd_fieldsP hp
    change ∀ j (hj : j < ps.length), ∀ (s : σ) (d : Int) (v : Value) (w : World), OK s ps[j] → Inv s w → PdAt (fun b => b < B) w v ps[j] → Calls Try.prog 65 #[v, .int .i64 d, .func (.func 66) #[] #[.pointer (some ⟨bx, 0, none⟩)]] w (EvPost (walkP f s ps[j] d) B Inv Safe w) at IH
    have HH := Lib.hid IH
    have HP := Lib.hid hps
    have hfew := hps.1.few
    obtain ⟨m, hm⟩ : ∃ m, ps.length = m := ⟨_, rfl⟩
    have HM := Lib.hid hm
    rw [hm] at hfew HCL ⊢
    change Hid (∀ s1, f s _ d = some s1 → r = walkL f s1 (ps.drop 0) d1) at HW
    obtain ⟨fr, hfr⟩ : ∃ fr, f s (.mk op cmp ⟨lk, li, ⟨lvk, lvn, lvs⟩⟩ ⟨rk, ri, ⟨rvk, rvn, rvs⟩⟩ ps) d = fr := ⟨_, rfl⟩
    change Hid (∀ s1, f s _ d = some s1 → OKL s1 (ps.drop 0)) at HO
    rw [hfr] at HCL HW HW0 HO
    clear IH C hI hp hps hd hd1 hr hm hfr
    cases fr with
    | none =>
      obtain rfl := HW0.out rfl
      go_enter Try.func65, Try.ntmps65
      go_wp2_with fail
      refine (HCL.out _ (by (repeat (first | exact Below.refl _ _ | assumption | refine Below.drew ?_ | refine Below.setCell ?_ (by first | omega | (simp only [World.size_alloc]; omega) | (simp; try omega)) _ | refine Below.alloc ?_ (by first | omega | (simp only [World.size_alloc]; omega) | (simp; try omega)) _)))).mono ?_
      rintro e w1 ⟨he, hb, -⟩
      obtain rfl : e = .returned (.bool false) := he
      have B1 : Hid (Below B w w1) := Below.trans (((Below.refl w.heap.size _).alloc (Nat.le_refl _) _).mono hlt) hb
      clear hb
      go_wp2_with fail
      go_ret
      exact ⟨rfl, B1.out, fun s' h => by cases h⟩
    | some s1 =>
      go_enter Try.func65, Try.ntmps65
      go_wp2_with fail
      have hc12 : (w.alloc (.cells #[.int .i64 op, .int .i64 cmp, .int .i64 lk, .int .i64 li, .int .i64 lvk, .int .i64 lvn, .string lvs, .int .i64 rk, .int .i64 ri, .int .i64 rvk, .int .i64 rvn, .string rvs, .slice a m c] 77)).cell? ⟨w.heap.size, 12, none⟩ = some (.slice a m c) := by go_simp
      have BA : Below w.heap.size w (w.alloc (.cells #[.int .i64 op, .int .i64 cmp, .int .i64 lk, .int .i64 li, .int .i64 lvk, .int .i64 lvn, .string lvs, .int .i64 rk, .int .i64 ri, .int .i64 rvk, .int .i64 rvn, .string rvs, .slice a m c] 77)) := (Below.refl _ _).alloc (Nat.le_refl _) _
      have hszA : (w.alloc (.cells #[.int .i64 op, .int .i64 cmp, .int .i64 lk, .int .i64 li, .int .i64 lvk, .int .i64 lvn, .string lvs, .int .i64 rk, .int .i64 ri, .int .i64 rvk, .int .i64 rvn, .string rvs, .slice a m c] 77)).heap.size = w.heap.size + 1 := by simp
      have FA : Fr Safe w (w.alloc (.cells #[.int .i64 op, .int .i64 cmp, .int .i64 lk, .int .i64 li, .int .i64 lvk, .int .i64 lvn, .string lvs, .int .i64 rk, .int .i64 ri, .int .i64 rvk, .int .i64 rvn, .string rvs, .slice a m c] 77)) := Fr.below HC.out HI.out BA
      have NA : Safe w.heap.size (w.alloc (.cells #[.int .i64 op, .int .i64 cmp, .int .i64 lk, .int .i64 li, .int .i64 lvk, .int .i64 lvn, .string lvs, .int .i64 rk, .int .i64 ri, .int .i64 rvk, .int .i64 rvn, .string rvs, .slice a m c] 77)) := HC.out.new s w _ _ HI.out BA (Nat.le_refl _)
      obtain ⟨wA, hwA⟩ : ∃ wA, w.alloc (.cells #[.int .i64 op, .int .i64 cmp, .int .i64 lk, .int .i64 li, .int .i64 lvk, .int .i64 lvn, .string lvs, .int .i64 rk, .int .i64 ri, .int .i64 rvk, .int .i64 rvn, .string rvs, .slice a m c] 77) = wA := ⟨_, rfl⟩
      rw [hwA] at hc12 BA FA NA hszA ⊢
      refine (HCL.out _ BA).mono ?_
      rintro e w1 ⟨he, hb, hfr⟩
      obtain rfl : e = .returned (.bool true) := he
      obtain ⟨hI1, hF1⟩ := hfr s1 rfl
      have c12 : w1.cell? ⟨w.heap.size, 12, none⟩ = some (.slice a m c) := (World.cell?_of_block (w := wA) (a := ⟨w.heap.size, 12, none⟩) (hF1 w.heap.size (by omega) NA).1).trans hc12
      have B1 : Hid (Below B w w1) := (BA.mono hlt).trans hb
      have F1 : Hid (Fr Safe w w1) := FA.trans hF1 BA.size
      have I1 : Hid (Inv s1 w1) := hI1
      have HR : Hid (walkL f s1 (ps.drop 0) d1 = r) := (HW.out s1 rfl).symm
      have HO1 : Hid (OKL s1 (ps.drop 0)) := HO.out s1 rfl
      clear hb hfr hI1 hF1 BA FA NA hc12 hszA hwA HCL HW HW0 HO
      clear wA
      go_wp2_with fail
      go_loopw [17] (fun i wr => ∃ (k : Nat) (s' : σ), k ≤ m ∧ i = .int .i64 k ∧ Hid (Below B w wr) ∧ Hid (Fr Safe w wr) ∧ Hid (Inv s' wr) ∧ Hid (walkL f s' (ps.drop k) d1 = r) ∧ Hid (OKL s' (ps.drop k))) (fun i _ => m - (intOf i).toNat)
      case atStart => exact ⟨0, s1, by omega, rfl, B1.out, F1.out, I1.out, HR.out, HO1.out⟩
      case round =>
        obtain ⟨k, s', hk, rfl, BR, FR, IR, HT, OR⟩ := hrel
        clear B1 F1 I1 HR HO1 c12
        by_cases hlt2 : k < m
        · have hlt' : (k : Int) < m := by omega
          have hkn : k < ps.length := by rw [HM.out]; exact hlt2
          obtain ⟨b, o, a1, c1, rfl, hPb, hb, g0, g1, g2, g3, g4, g5, g6, g7, g8, g9, g10, g11, g12, hps⟩ := (HP.out.under BR.out).get hkn
          have zB : B ≤ wr.heap.size := by have := BR.out.size; omega
          have HN : Hid (∀ W, Below wr.heap.size wr W → Calls Try.prog 65 #[.agg #[.int .i64 ps[k].op, .int .i64 ps[k].cmp, .int .i64 ps[k].l.k, .int .i64 ps[k].l.i, .int .i64 ps[k].l.v.k, .int .i64 ps[k].l.v.n, .string ps[k].l.v.s, .int .i64 ps[k].r.k, .int .i64 ps[k].r.i, .int .i64 ps[k].r.v.k, .int .i64 ps[k].r.v.n, .string ps[k].r.v.s, .slice a1 ps[k].args.length c1], .int .i64 d1, .func (.func 66) #[] #[.pointer (some ⟨bx, 0, none⟩)]] W (EvPost (walkP f s' ps[k] d1) B Inv Safe W)) := fun W hbW =>
            HH.out k hkn s' d1 _ W (HC.out.head s' ps k hkn OR.out) (HC.out.inv s' wr W IR.out hbW) ⟨a1, c1, rfl, hps.under (hbW.mono zB)⟩
          have HD : Hid (walkL f s' (ps.drop k) d1 = (walkP f s' ps[k] d1).bind fun s'' => walkL f s'' (ps.drop (k + 1)) d1) := walkL_step f s' ps k hkn d1
          have HTL : Hid (∀ s2, walkP f s' ps[k] d1 = some s2 → OKL s2 (ps.drop (k + 1))) := fun s2 h => HC.out.tail s' s2 ps k hkn d1 OR.out h
          clear hps
          generalize walkP f s' ps[k] d1 = y at *
          generalize ps[k].op = eop at *
          generalize ps[k].cmp = ecmp at *
          generalize ps[k].l.k = elk at *
          generalize ps[k].l.i = eli at *
          generalize ps[k].l.v.k = elvk at *
          generalize ps[k].l.v.n = elvn at *
          generalize ps[k].l.v.s = elvs at *
          generalize ps[k].r.k = erk at *
          generalize ps[k].r.i = eri at *
          generalize ps[k].r.v.k = ervk at *
          generalize ps[k].r.v.n = ervn at *
          generalize ps[k].r.v.s = ervs at *
          generalize ps[k].args.length = en at *
          cases y with
          | none =>
            have HX : Hid (r = none) := by show _ = _; rw [← HT.out, HD.out]; rfl
            go_wp2_with fail
            refine (HN.out _ (by (repeat (first | exact Below.refl _ _ | assumption | refine Below.drew ?_ | refine Below.setCell ?_ (by first | omega | (simp only [World.size_alloc]; omega) | (simp; try omega)) _ | refine Below.alloc ?_ (by first | omega | (simp only [World.size_alloc]; omega) | (simp; try omega)) _)))).mono ?_
            rintro e w5 ⟨he, hb5, -⟩
            obtain rfl : e = .returned (.bool false) := he
            have B5 : Hid (Below B w w5) := BR.out.trans ((((Below.refl wr.heap.size _).alloc (Nat.le_refl _) _).mono zB).trans hb5)
            clear hb5 g0 g1 g2 g3 g4 g5 g6 g7 g8 g9 g10 g11 g12
            go_wp2_with fail
            go_ret
            exact ⟨by rw [HX.out]; rfl, B5.out, fun s' h => by rw [HX.out] at h; cases h⟩
          | some s2 =>
            have HX : Hid (walkL f s2 (ps.drop (k + 1)) d1 = r) := by show _ = _; rw [← HT.out, HD.out]; rfl
            have OX : Hid (OKL s2 (ps.drop (k + 1))) := HTL.out s2 rfl
            clear HTL
            go_wp2_with fail
            refine (HN.out _ (by (repeat (first | exact Below.refl _ _ | assumption | refine Below.drew ?_ | refine Below.setCell ?_ (by first | omega | (simp only [World.size_alloc]; omega) | (simp; try omega)) _ | refine Below.alloc ?_ (by first | omega | (simp only [World.size_alloc]; omega) | (simp; try omega)) _)))).mono ?_
            rintro e w5 ⟨he, hb5, hfr5⟩
            obtain rfl : e = .returned (.bool true) := he
            obtain ⟨hI5, hF5⟩ := hfr5 s2 rfl
            have BO : Below wr.heap.size wr (wr.alloc (.cells #[.int .i64 eop, .int .i64 ecmp, .int .i64 elk, .int .i64 eli, .int .i64 elvk, .int .i64 elvn, .string elvs, .int .i64 erk, .int .i64 eri, .int .i64 ervk, .int .i64 ervn, .string ervs, .slice a1 en c1] 77)) := (Below.refl _ _).alloc (Nat.le_refl _) _
            have B5 : Hid (Below B w w5) := BR.out.trans ((BO.mono zB).trans hb5)
            have F5 : Hid (Fr Safe w w5) := FR.out.trans ((Fr.below HC.out IR.out BO).trans hF5 BO.size) BR.out.size
            have I5 : Hid (Inv s2 w5) := hI5
            clear hb5 hfr5 hI5 hF5 BO g0 g1 g2 g3 g4 g5 g6 g7 g8 g9 g10 g11 g12
            go_wp2_with fail
            go_roundw
            case rel => exact ⟨k + 1, s2, by omega, by go_num, B5.out, F5.out, I5.out, HX.out, OX.out⟩
            case measure => simp [intOf]; omega
        · have HX : Hid (r = some s') := by show _ = _; rw [← HT.out]; exact walkL_end f s' ps k (by rw [HM.out]; omega) d1
          go_wp2_with fail
          go_ret
          exact ⟨by rw [HX.out]; rfl, BR.out, fun s'' h => by rw [HX.out] at h; cases h; exact ⟨IR.out, FR.out⟩⟩

set_option maxRecDepth 100000 in
set_option maxHeartbeats 4000000 in
theorem every_small {σ : Type} {f : σ → PT → Int → Option σ} {B bx : Nat} {Inv : σ → World → Prop} {Safe : Nat → World → Prop} {OK : σ → PT → Prop} {OKL : σ → List PT → Prop} (C : Clo σ f B 87 bx Inv Safe OK OKL) : ∀ (n : Nat) (p : PT), p.depth ≤ n → ∀ (s : σ) (d : Int) (v : Value) (w : World), OK s p → Inv s w → PdAt (fun b => b < B) w v p → Calls Try.prog 65 #[v, .int .i64 d, .func (.func 87) #[] #[.pointer (some ⟨bx, 0, none⟩)]] w (EvPost (walkP f s p d) B Inv Safe w)
  | 0, p, hd, _, _, _, _, _, _, _ => by have := p.depth_pos; omega
  | n + 1, p, hd, s, d, v, w, hok, hI, hp => by
    have IH : ∀ j (hj : j < p.args.length), ∀ (s : σ) (d : Int) (v : Value) (w : World), OK s p.args[j] → Inv s w → PdAt (fun b => b < B) w v p.args[j] → Calls Try.prog 65 #[v, .int .i64 d, .func (.func 87) #[] #[.pointer (some ⟨bx, 0, none⟩)]] w (EvPost (walkP f s p.args[j] d) B Inv Safe w) := fun j hj => every_small C n _ (PT.depth_arg hj hd)
    have HCL : Hid (∀ W, Below w.heap.size w W → Calls Try.prog 87 #[v, .int .i64 d, .pointer (some ⟨bx, 0, none⟩)] W (EvPost (f s p d) B Inv Safe W)) := fun W hb => C.call s p d v W hok (C.inv s w W hI hb) (hp.under (hb.mono (C.lt s w hI)))
    have HW : Hid (∀ s1, f s p d = some s1 → walkP f s p d = walkL f s1 (p.args.drop 0) (nxD d)) := fun s1 h => walkP_some h
    have HW0 : Hid (f s p d = none → walkP f s p d = none) := fun h => walkP_none h
    have HC : Hid (Clo σ f B 87 bx Inv Safe OK OKL) := C
    have HO : Hid (∀ s1, f s p d = some s1 → OKL s1 (p.args.drop 0)) := fun s1 h => C.args s s1 p d hok h
    clear hok
    obtain ⟨d1, hd1⟩ : ∃ d1, nxD d = d1 := ⟨_, rfl⟩
    rw [hd1] at HW
    have e1 : IntKind.i64.wrap (d + 1) = d1 := hd1
    obtain ⟨r, hr⟩ : ∃ r, walkP f s p d = r := ⟨_, rfl⟩
    rw [hr] at HW HW0 ⊢
    have hlt := C.lt s w hI
    have HI := Lib.hid hI
    obtain ⟨op, cmp, lk, li, lvk, lvn, lvs, rk, ri, rvk, rvn, rvs, ps, a, c, rfl, rfl, hps⟩ := pd_fieldsP hp
    change ∀ j (hj : j < ps.length), ∀ (s : σ) (d : Int) (v : Value) (w : World), OK s ps[j] → Inv s w → PdAt (fun b => b < B) w v ps[j] → Calls Try.prog 65 #[v, .int .i64 d, .func (.func 87) #[] #[.pointer (some ⟨bx, 0, none⟩)]] w (EvPost (walkP f s ps[j] d) B Inv Safe w) at IH
    have HH := Lib.hid IH
    have HP := Lib.hid hps
    have hfew := hps.1.few
    obtain ⟨m, hm⟩ : ∃ m, ps.length = m := ⟨_, rfl⟩
    have HM := Lib.hid hm
    rw [hm] at hfew HCL ⊢
    change Hid (∀ s1, f s _ d = some s1 → r = walkL f s1 (ps.drop 0) d1) at HW
    obtain ⟨fr, hfr⟩ : ∃ fr, f s (.mk op cmp ⟨lk, li, ⟨lvk, lvn, lvs⟩⟩ ⟨rk, ri, ⟨rvk, rvn, rvs⟩⟩ ps) d = fr := ⟨_, rfl⟩
    change Hid (∀ s1, f s _ d = some s1 → OKL s1 (ps.drop 0)) at HO
    rw [hfr] at HCL HW HW0 HO
    clear IH C hI hp hps hd hd1 hr hm hfr
    cases fr with
    | none =>
      obtain rfl := HW0.out rfl
      go_enter Try.func65, Try.ntmps65
      go_wp2_with fail
      refine (HCL.out _ (by (repeat (first | exact Below.refl _ _ | assumption | refine Below.drew ?_ | refine Below.setCell ?_ (by first | omega | (simp only [World.size_alloc]; omega) | (simp; try omega)) _ | refine Below.alloc ?_ (by first | omega | (simp only [World.size_alloc]; omega) | (simp; try omega)) _)))).mono ?_
      rintro e w1 ⟨he, hb, -⟩
      obtain rfl : e = .returned (.bool false) := he
      have B1 : Hid (Below B w w1) := Below.trans (((Below.refl w.heap.size _).alloc (Nat.le_refl _) _).mono hlt) hb
      clear hb
      go_wp2_with fail
      go_ret
      exact ⟨rfl, B1.out, fun s' h => by cases h⟩
    | some s1 =>
      go_enter Try.func65, Try.ntmps65
      go_wp2_with fail
      have hc12 : (w.alloc (.cells #[.int .i64 op, .int .i64 cmp, .int .i64 lk, .int .i64 li, .int .i64 lvk, .int .i64 lvn, .string lvs, .int .i64 rk, .int .i64 ri, .int .i64 rvk, .int .i64 rvn, .string rvs, .slice a m c] 77)).cell? ⟨w.heap.size, 12, none⟩ = some (.slice a m c) := by go_simp
      have BA : Below w.heap.size w (w.alloc (.cells #[.int .i64 op, .int .i64 cmp, .int .i64 lk, .int .i64 li, .int .i64 lvk, .int .i64 lvn, .string lvs, .int .i64 rk, .int .i64 ri, .int .i64 rvk, .int .i64 rvn, .string rvs, .slice a m c] 77)) := (Below.refl _ _).alloc (Nat.le_refl _) _
      have hszA : (w.alloc (.cells #[.int .i64 op, .int .i64 cmp, .int .i64 lk, .int .i64 li, .int .i64 lvk, .int .i64 lvn, .string lvs, .int .i64 rk, .int .i64 ri, .int .i64 rvk, .int .i64 rvn, .string rvs, .slice a m c] 77)).heap.size = w.heap.size + 1 := by simp
      have FA : Fr Safe w (w.alloc (.cells #[.int .i64 op, .int .i64 cmp, .int .i64 lk, .int .i64 li, .int .i64 lvk, .int .i64 lvn, .string lvs, .int .i64 rk, .int .i64 ri, .int .i64 rvk, .int .i64 rvn, .string rvs, .slice a m c] 77)) := Fr.below HC.out HI.out BA
      have NA : Safe w.heap.size (w.alloc (.cells #[.int .i64 op, .int .i64 cmp, .int .i64 lk, .int .i64 li, .int .i64 lvk, .int .i64 lvn, .string lvs, .int .i64 rk, .int .i64 ri, .int .i64 rvk, .int .i64 rvn, .string rvs, .slice a m c] 77)) := HC.out.new s w _ _ HI.out BA (Nat.le_refl _)
      obtain ⟨wA, hwA⟩ : ∃ wA, w.alloc (.cells #[.int .i64 op, .int .i64 cmp, .int .i64 lk, .int .i64 li, .int .i64 lvk, .int .i64 lvn, .string lvs, .int .i64 rk, .int .i64 ri, .int .i64 rvk, .int .i64 rvn, .string rvs, .slice a m c] 77) = wA := ⟨_, rfl⟩
      rw [hwA] at hc12 BA FA NA hszA ⊢
      refine (HCL.out _ BA).mono ?_
      rintro e w1 ⟨he, hb, hfr⟩
      obtain rfl : e = .returned (.bool true) := he
      obtain ⟨hI1, hF1⟩ := hfr s1 rfl
      have c12 : w1.cell? ⟨w.heap.size, 12, none⟩ = some (.slice a m c) := (World.cell?_of_block (w := wA) (a := ⟨w.heap.size, 12, none⟩) (hF1 w.heap.size (by omega) NA).1).trans hc12
      have B1 : Hid (Below B w w1) := (BA.mono hlt).trans hb
      have F1 : Hid (Fr Safe w w1) := FA.trans hF1 BA.size
      have I1 : Hid (Inv s1 w1) := hI1
      have HR : Hid (walkL f s1 (ps.drop 0) d1 = r) := (HW.out s1 rfl).symm
      have HO1 : Hid (OKL s1 (ps.drop 0)) := HO.out s1 rfl
      clear hb hfr hI1 hF1 BA FA NA hc12 hszA hwA HCL HW HW0 HO
      clear wA
      go_wp2_with fail
      go_loopw [17] (fun i wr => ∃ (k : Nat) (s' : σ), k ≤ m ∧ i = .int .i64 k ∧ Hid (Below B w wr) ∧ Hid (Fr Safe w wr) ∧ Hid (Inv s' wr) ∧ Hid (walkL f s' (ps.drop k) d1 = r) ∧ Hid (OKL s' (ps.drop k))) (fun i _ => m - (intOf i).toNat)
      case atStart => exact ⟨0, s1, by omega, rfl, B1.out, F1.out, I1.out, HR.out, HO1.out⟩
      case round =>
        obtain ⟨k, s', hk, rfl, BR, FR, IR, HT, OR⟩ := hrel
        clear B1 F1 I1 HR HO1 c12
        by_cases hlt2 : k < m
        · have hlt' : (k : Int) < m := by omega
          have hkn : k < ps.length := by rw [HM.out]; exact hlt2
          obtain ⟨b, o, a1, c1, rfl, hPb, hb, g0, g1, g2, g3, g4, g5, g6, g7, g8, g9, g10, g11, g12, hps⟩ := (HP.out.under BR.out).get hkn
          have zB : B ≤ wr.heap.size := by have := BR.out.size; omega
          have HN : Hid (∀ W, Below wr.heap.size wr W → Calls Try.prog 65 #[.agg #[.int .i64 ps[k].op, .int .i64 ps[k].cmp, .int .i64 ps[k].l.k, .int .i64 ps[k].l.i, .int .i64 ps[k].l.v.k, .int .i64 ps[k].l.v.n, .string ps[k].l.v.s, .int .i64 ps[k].r.k, .int .i64 ps[k].r.i, .int .i64 ps[k].r.v.k, .int .i64 ps[k].r.v.n, .string ps[k].r.v.s, .slice a1 ps[k].args.length c1], .int .i64 d1, .func (.func 87) #[] #[.pointer (some ⟨bx, 0, none⟩)]] W (EvPost (walkP f s' ps[k] d1) B Inv Safe W)) := fun W hbW =>
            HH.out k hkn s' d1 _ W (HC.out.head s' ps k hkn OR.out) (HC.out.inv s' wr W IR.out hbW) ⟨a1, c1, rfl, hps.under (hbW.mono zB)⟩
          have HD : Hid (walkL f s' (ps.drop k) d1 = (walkP f s' ps[k] d1).bind fun s'' => walkL f s'' (ps.drop (k + 1)) d1) := walkL_step f s' ps k hkn d1
          have HTL : Hid (∀ s2, walkP f s' ps[k] d1 = some s2 → OKL s2 (ps.drop (k + 1))) := fun s2 h => HC.out.tail s' s2 ps k hkn d1 OR.out h
          clear hps
          generalize walkP f s' ps[k] d1 = y at *
          generalize ps[k].op = eop at *
          generalize ps[k].cmp = ecmp at *
          generalize ps[k].l.k = elk at *
          generalize ps[k].l.i = eli at *
          generalize ps[k].l.v.k = elvk at *
          generalize ps[k].l.v.n = elvn at *
          generalize ps[k].l.v.s = elvs at *
          generalize ps[k].r.k = erk at *
          generalize ps[k].r.i = eri at *
          generalize ps[k].r.v.k = ervk at *
          generalize ps[k].r.v.n = ervn at *
          generalize ps[k].r.v.s = ervs at *
          generalize ps[k].args.length = en at *
          cases y with
          | none =>
            have HX : Hid (r = none) := by show _ = _; rw [← HT.out, HD.out]; rfl
            go_wp2_with fail
            refine (HN.out _ (by (repeat (first | exact Below.refl _ _ | assumption | refine Below.drew ?_ | refine Below.setCell ?_ (by first | omega | (simp only [World.size_alloc]; omega) | (simp; try omega)) _ | refine Below.alloc ?_ (by first | omega | (simp only [World.size_alloc]; omega) | (simp; try omega)) _)))).mono ?_
            rintro e w5 ⟨he, hb5, -⟩
            obtain rfl : e = .returned (.bool false) := he
            have B5 : Hid (Below B w w5) := BR.out.trans ((((Below.refl wr.heap.size _).alloc (Nat.le_refl _) _).mono zB).trans hb5)
            clear hb5 g0 g1 g2 g3 g4 g5 g6 g7 g8 g9 g10 g11 g12
            go_wp2_with fail
            go_ret
            exact ⟨by rw [HX.out]; rfl, B5.out, fun s' h => by rw [HX.out] at h; cases h⟩
          | some s2 =>
            have HX : Hid (walkL f s2 (ps.drop (k + 1)) d1 = r) := by show _ = _; rw [← HT.out, HD.out]; rfl
            have OX : Hid (OKL s2 (ps.drop (k + 1))) := HTL.out s2 rfl
            clear HTL
            go_wp2_with fail
            refine (HN.out _ (by (repeat (first | exact Below.refl _ _ | assumption | refine Below.drew ?_ | refine Below.setCell ?_ (by first | omega | (simp only [World.size_alloc]; omega) | (simp; try omega)) _ | refine Below.alloc ?_ (by first | omega | (simp only [World.size_alloc]; omega) | (simp; try omega)) _)))).mono ?_
            rintro e w5 ⟨he, hb5, hfr5⟩
            obtain rfl : e = .returned (.bool true) := he
            obtain ⟨hI5, hF5⟩ := hfr5 s2 rfl
            have BO : Below wr.heap.size wr (wr.alloc (.cells #[.int .i64 eop, .int .i64 ecmp, .int .i64 elk, .int .i64 eli, .int .i64 elvk, .int .i64 elvn, .string elvs, .int .i64 erk, .int .i64 eri, .int .i64 ervk, .int .i64 ervn, .string ervs, .slice a1 en c1] 77)) := (Below.refl _ _).alloc (Nat.le_refl _) _
            have B5 : Hid (Below B w w5) := BR.out.trans ((BO.mono zB).trans hb5)
            have F5 : Hid (Fr Safe w w5) := FR.out.trans ((Fr.below HC.out IR.out BO).trans hF5 BO.size) BR.out.size
            have I5 : Hid (Inv s2 w5) := hI5
            clear hb5 hfr5 hI5 hF5 BO g0 g1 g2 g3 g4 g5 g6 g7 g8 g9 g10 g11 g12
            go_wp2_with fail
            go_roundw
            case rel => exact ⟨k + 1, s2, by omega, by go_num, B5.out, F5.out, I5.out, HX.out, OX.out⟩
            case measure => simp [intOf]; omega
        · have HX : Hid (r = some s') := by show _ = _; rw [← HT.out]; exact walkL_end f s' ps k (by rw [HM.out]; omega) d1
          go_wp2_with fail
          go_ret
          exact ⟨by rw [HX.out]; rfl, BR.out, fun s'' h => by rw [HX.out] at h; cases h; exact ⟨IR.out, FR.out⟩⟩

end Go.Proofs.Ytjcbmeannhafjaa
