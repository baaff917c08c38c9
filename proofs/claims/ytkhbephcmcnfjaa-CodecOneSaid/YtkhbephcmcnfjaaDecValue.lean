/- The decoder's values. -/
import Derived.Test.YtkhbephcmcnfjaaReadText
import Derived.Test.YtkhbephcmcnfjaaPutVal
namespace Go.Proofs.Ytkhbephcmcnfjaa
open Go.RowKit Go.Deep

/-- The value at a place, and the place behind it. -/
def rdV (L : List UInt8) (p : Nat) : Except Int (V × Nat) := match L[p]? with
  | none => .error 20
  | some k =>
    if k.toNat = 1 ∨ k.toNat = 2 then .ok (⟨k.toNat, 0, ⟨#[]⟩⟩, p + 1)
    else if k.toNat = 3 then match L[p + 1]? with
      | none => .error 20
      | some b => if b.toNat ≤ 1 then .ok (⟨3, b.toNat, ⟨#[]⟩⟩, p + 2) else .error 21
    else if k.toNat = 4 then match rdUint L (p + 1) with
      | .error e => .error e
      | .ok (n, q) => .ok (⟨4, unzz n, ⟨#[]⟩⟩, q)
    else if k.toNat = 5 then match rdText L (p + 1) 64 with
      | .error e => .error e
      | .ok (s, q) => .ok (⟨5, 0, ⟨s.toArray⟩⟩, q)
    else .error 21
def retVal : Except Int (V × Nat) → Except Int (Value × Nat)
  | .error e => .error e
  | .ok (v, j) => .ok (.agg #[.int .i64 v.k, .int .i64 v.n, .string v.s], j)

theorem set3 {W : World} {r : Nat} {x y z : Value} (a b c : Value) (h0 : W.cell? ⟨r, 0, none⟩ = some x) (h1 : W.cell? ⟨r, 1, none⟩ = some y) (h2 : W.cell? ⟨r, 2, none⟩ = some z) :
    (((W.setCell ⟨r, 0, none⟩ a).setCell ⟨r, 1, none⟩ b).setCell ⟨r, 2, none⟩ c).cell? ⟨r, 0, none⟩ = some a ∧ (((W.setCell ⟨r, 0, none⟩ a).setCell ⟨r, 1, none⟩ b).setCell ⟨r, 2, none⟩ c).cell? ⟨r, 1, none⟩ = some b ∧ (((W.setCell ⟨r, 0, none⟩ a).setCell ⟨r, 1, none⟩ b).setCell ⟨r, 2, none⟩ c).cell? ⟨r, 2, none⟩ = some c := by
  have a0 := World.cell?_setCell_same (v := a) (h := h0)
  have a1 : (W.setCell ⟨r, 0, none⟩ a).cell? ⟨r, 1, none⟩ = some y := by rw [World.cell?_setCell_other _ _ _ _ (by simp)]; exact h1
  have a2 : (W.setCell ⟨r, 0, none⟩ a).cell? ⟨r, 2, none⟩ = some z := by rw [World.cell?_setCell_other _ _ _ _ (by simp)]; exact h2
  have b1 := World.cell?_setCell_same (v := b) (h := a1)
  have b2 : ((W.setCell ⟨r, 0, none⟩ a).setCell ⟨r, 1, none⟩ b).cell? ⟨r, 2, none⟩ = some z := by rw [World.cell?_setCell_other _ _ _ _ (by simp)]; exact a2
  refine ⟨?_, ?_, World.cell?_setCell_same (v := c) (h := b2)⟩
  · rw [World.cell?_setCell_other _ _ _ _ (by simp), World.cell?_setCell_other _ _ _ _ (by simp)]; exact a0
  · rw [World.cell?_setCell_other _ _ _ _ (by simp)]; exact b1
theorem past3 {W : World} {r : Nat} (o : Obj) (h : r < W.heap.size) (i : Nat) : (W.alloc o).cell? ⟨r, i, none⟩ = W.cell? ⟨r, i, none⟩ :=
  ((Below.refl W.heap.size W).alloc (Nat.le_refl _) o).cell (p := ⟨r, i, none⟩) h

set_option maxRecDepth 100000 in
set_option maxHeartbeats 8000000 in
theorem dValue_any (bd B : Nat) (L : List UInt8) (p : Nat) (w : World) (h : DecOk bd B L p w) (hL : L.length ≤ 4398046511104) :
    Calls Try.prog 83 #[.pointer (some ⟨bd, 0, none⟩)] w (DecPost bd B L (retVal (rdV L p)) w) := by
  have hlt := h.lt
  have hb0 : Below w.heap.size w (w.alloc (.cells #[.int .i64 0, .int .i64 0, .string ⟨#[]⟩] 42)) := (Below.refl _ _).alloc (Nat.le_refl _) _
  have HBY := Lib.hid (dByte_any bd B L p _ (h.below hb0 hlt.2))
  have HMV0 : Hid (Mv bd w (w.alloc (.cells #[.int .i64 0, .int .i64 0, .string ⟨#[]⟩] 42))) := (Mv.refl _ _).alloc _
  have C0 : Hid (∀ i, (w.alloc (.cells #[.int .i64 0, .int .i64 0, .string ⟨#[]⟩] 42)).cell? ⟨w.heap.size, i, none⟩ = (#[.int .i64 0, .int .i64 0, .string ⟨#[]⟩] : Array Value)[i]?) := fun i => World.cell?_alloc_mark w _ _ _ i
  have F0 : Hid (∀ i, (w.alloc (.cells #[.int .i64 0, .int .i64 0, .string ⟨#[]⟩] 42)).frozen? ⟨w.heap.size, i, none⟩ = false) := fun i => by rw [World.frozen?_alloc_mark]; simp
  by_cases hp : p < L.length
  · obtain ⟨k, hk⟩ : ∃ k, L[p] = k := ⟨_, rfl⟩
    have hLp : L[p]? = some k := by rw [List.getElem?_eq_getElem hp, hk]
    rw [hLp] at HBY
    by_cases h1 : k.toNat = 1
    · obtain rfl : k = 1 := by apply UInt8.toNat_inj.1; rw [h1]; rfl
      have HV : Hid (rdV L p = .ok (⟨1, 0, ⟨#[]⟩⟩, p + 1)) := by show _ = _; unfold rdV; rw [hLp]; rfl
      rw [HV.out]
      clear HV
      go_enter Try.func83, Try.ntmps83
      go_wp2_with fail
      refine HBY.out.mono ?_
      rintro en w1 ⟨hm, rfl, hok⟩
      have hbk := hm.block w.heap.size (by simp) (by omega)
      have hsz : w.heap.size < w1.heap.size := by have := hm.size; simp at this; omega
      have q0 : w1.cell? ⟨w.heap.size, 0, none⟩ = some (.int .i64 0) := (World.cell?_of_block (a := ⟨w.heap.size, 0, none⟩) hbk).trans (C0.out 0)
      have q1 : w1.cell? ⟨w.heap.size, 1, none⟩ = some (.int .i64 0) := (World.cell?_of_block (a := ⟨w.heap.size, 1, none⟩) hbk).trans (C0.out 1)
      have q2 : w1.cell? ⟨w.heap.size, 2, none⟩ = some (.string ⟨#[]⟩) := (World.cell?_of_block (a := ⟨w.heap.size, 2, none⟩) hbk).trans (C0.out 2)
      have g0 : w1.frozen? ⟨w.heap.size, 0, none⟩ = false := (World.frozen?_of_block (a := ⟨w.heap.size, 0, none⟩) hbk).trans (F0.out 0)
      have g1 : w1.frozen? ⟨w.heap.size, 1, none⟩ = false := (World.frozen?_of_block (a := ⟨w.heap.size, 1, none⟩) hbk).trans (F0.out 1)
      have g2 : w1.frozen? ⟨w.heap.size, 2, none⟩ = false := (World.frozen?_of_block (a := ⟨w.heap.size, 2, none⟩) hbk).trans (F0.out 2)
      have HM1 : Hid (Mv bd w w1) := HMV0.out.trans hm
      have HOK1 := Lib.hid hok
      clear hbk hm hok HBY C0 F0 HMV0
      go_wp2_with fail
      obtain ⟨e0, e1, e2⟩ := set3 (.int .i64 1) (.int .i64 0) (.string ⟨#[]⟩) q0 q1 q2
      have ea := past3 (W := ((w1.setCell ⟨w.heap.size, 0, none⟩ (.int .i64 1)).setCell ⟨w.heap.size, 1, none⟩ (.int .i64 0)).setCell ⟨w.heap.size, 2, none⟩ (.string ⟨#[]⟩)) (r := w.heap.size) (.cells #[.int .i64 1, .int .i64 0, .string ⟨#[]⟩] 42) (by simpa using hsz)
      refine bodyPost_ret (v := .agg #[.int .i64 1, .int .i64 0, .string ⟨#[]⟩]) (by simp [results, Try.results83, go_sem, ea, e0, e1, e2]) rfl ⟨(by repeat (first | exact HM1.out | exact HM2.out | refine Mv.alloc ?_ _ | refine Mv.setNew ?_ (Nat.le_refl _) _ _)), rfl, HOK1.out.below (B' := B) (by repeat (first | exact Below.refl _ _ | refine Below.alloc ?_ (by simp; omega) _ | refine Below.setCell ?_ (by simp; omega) _)) (Nat.le_refl _)⟩
    by_cases h2 : k.toNat = 2
    · obtain rfl : k = 2 := by apply UInt8.toNat_inj.1; rw [h2]; rfl
      have HV : Hid (rdV L p = .ok (⟨2, 0, ⟨#[]⟩⟩, p + 1)) := by show _ = _; unfold rdV; rw [hLp]; rfl
      rw [HV.out]
      clear HV
      go_enter Try.func83, Try.ntmps83
      go_wp2_with fail
      refine HBY.out.mono ?_
      rintro en w1 ⟨hm, rfl, hok⟩
      have hbk := hm.block w.heap.size (by simp) (by omega)
      have hsz : w.heap.size < w1.heap.size := by have := hm.size; simp at this; omega
      have q0 : w1.cell? ⟨w.heap.size, 0, none⟩ = some (.int .i64 0) := (World.cell?_of_block (a := ⟨w.heap.size, 0, none⟩) hbk).trans (C0.out 0)
      have q1 : w1.cell? ⟨w.heap.size, 1, none⟩ = some (.int .i64 0) := (World.cell?_of_block (a := ⟨w.heap.size, 1, none⟩) hbk).trans (C0.out 1)
      have q2 : w1.cell? ⟨w.heap.size, 2, none⟩ = some (.string ⟨#[]⟩) := (World.cell?_of_block (a := ⟨w.heap.size, 2, none⟩) hbk).trans (C0.out 2)
      have g0 : w1.frozen? ⟨w.heap.size, 0, none⟩ = false := (World.frozen?_of_block (a := ⟨w.heap.size, 0, none⟩) hbk).trans (F0.out 0)
      have g1 : w1.frozen? ⟨w.heap.size, 1, none⟩ = false := (World.frozen?_of_block (a := ⟨w.heap.size, 1, none⟩) hbk).trans (F0.out 1)
      have g2 : w1.frozen? ⟨w.heap.size, 2, none⟩ = false := (World.frozen?_of_block (a := ⟨w.heap.size, 2, none⟩) hbk).trans (F0.out 2)
      have HM1 : Hid (Mv bd w w1) := HMV0.out.trans hm
      have HOK1 := Lib.hid hok
      clear hbk hm hok HBY C0 F0 HMV0
      go_wp2_with fail
      obtain ⟨e0, e1, e2⟩ := set3 (.int .i64 2) (.int .i64 0) (.string ⟨#[]⟩) q0 q1 q2
      have ea := past3 (W := ((w1.setCell ⟨w.heap.size, 0, none⟩ (.int .i64 2)).setCell ⟨w.heap.size, 1, none⟩ (.int .i64 0)).setCell ⟨w.heap.size, 2, none⟩ (.string ⟨#[]⟩)) (r := w.heap.size) (.cells #[.int .i64 2, .int .i64 0, .string ⟨#[]⟩] 42) (by simpa using hsz)
      refine bodyPost_ret (v := .agg #[.int .i64 2, .int .i64 0, .string ⟨#[]⟩]) (by simp [results, Try.results83, go_sem, ea, e0, e1, e2]) rfl ⟨(by repeat (first | exact HM1.out | exact HM2.out | refine Mv.alloc ?_ _ | refine Mv.setNew ?_ (Nat.le_refl _) _ _)), rfl, HOK1.out.below (B' := B) (by repeat (first | exact Below.refl _ _ | refine Below.alloc ?_ (by simp; omega) _ | refine Below.setCell ?_ (by simp; omega) _)) (Nat.le_refl _)⟩
    by_cases h4 : k.toNat = 4
    · obtain rfl : k = 4 := by apply UInt8.toNat_inj.1; rw [h4]; rfl
      obtain ⟨r, hr⟩ : ∃ r, rdUint L (p + 1) = r := ⟨_, rfl⟩
      have HI : Hid (∀ B W, DecOk bd B L (p + 1) W → Calls Try.prog 78 #[.pointer (some ⟨bd, 0, none⟩)] W (DecPost bd B L (retI r) W)) := fun B W h => by rw [← hr]; exact dInt_any bd B L (p + 1) W h
      cases r with
      | error e =>
        have HV : Hid (rdV L p = .error e) := by show _ = _; unfold rdV; rw [hLp]; simp only [hr]; rfl
        rw [HV.out]
        clear HV hr
        go_enter Try.func83, Try.ntmps83
        go_wp2_with fail
        refine HBY.out.mono ?_
        rintro en w1 ⟨hm, rfl, hok⟩
        have hbk := hm.block w.heap.size (by simp) (by omega)
        have hsz : w.heap.size < w1.heap.size := by have := hm.size; simp at this; omega
        have q0 : w1.cell? ⟨w.heap.size, 0, none⟩ = some (.int .i64 0) := (World.cell?_of_block (a := ⟨w.heap.size, 0, none⟩) hbk).trans (C0.out 0)
        have q1 : w1.cell? ⟨w.heap.size, 1, none⟩ = some (.int .i64 0) := (World.cell?_of_block (a := ⟨w.heap.size, 1, none⟩) hbk).trans (C0.out 1)
        have q2 : w1.cell? ⟨w.heap.size, 2, none⟩ = some (.string ⟨#[]⟩) := (World.cell?_of_block (a := ⟨w.heap.size, 2, none⟩) hbk).trans (C0.out 2)
        have g0 : w1.frozen? ⟨w.heap.size, 0, none⟩ = false := (World.frozen?_of_block (a := ⟨w.heap.size, 0, none⟩) hbk).trans (F0.out 0)
        have g1 : w1.frozen? ⟨w.heap.size, 1, none⟩ = false := (World.frozen?_of_block (a := ⟨w.heap.size, 1, none⟩) hbk).trans (F0.out 1)
        have g2 : w1.frozen? ⟨w.heap.size, 2, none⟩ = false := (World.frozen?_of_block (a := ⟨w.heap.size, 2, none⟩) hbk).trans (F0.out 2)
        have HM1 : Hid (Mv bd w w1) := HMV0.out.trans hm
        have hlt1 := hok.lt
        have hal : Below w1.heap.size w1 (w1.alloc (.cells #[.int .i64 4, .int .i64 0, .string ⟨#[]⟩] 42)) := (Below.refl _ _).alloc (Nat.le_refl _) _
        have HCALL := Lib.hid (HI.out B _ (hok.below hal hlt1.2))
        have HM2 : Hid (Mv bd w (w1.alloc (.cells #[.int .i64 4, .int .i64 0, .string ⟨#[]⟩] 42))) := HM1.out.alloc _
        have C1 : Hid (∀ i, (w1.alloc (.cells #[.int .i64 4, .int .i64 0, .string ⟨#[]⟩] 42)).cell? ⟨w1.heap.size, i, none⟩ = (#[.int .i64 4, .int .i64 0, .string ⟨#[]⟩] : Array Value)[i]?) := fun i => World.cell?_alloc_mark w1 _ _ _ i
        have F1 : Hid (∀ i, (w1.alloc (.cells #[.int .i64 4, .int .i64 0, .string ⟨#[]⟩] 42)).frozen? ⟨w1.heap.size, i, none⟩ = false) := fun i => by rw [World.frozen?_alloc_mark]; simp
        have C2 : Hid (∀ i, (w1.alloc (.cells #[.int .i64 4, .int .i64 0, .string ⟨#[]⟩] 42)).cell? ⟨w.heap.size, i, none⟩ = w1.cell? ⟨w.heap.size, i, none⟩) := fun i => hal.cell (p := ⟨w.heap.size, i, none⟩) hsz
        have F2 : Hid (∀ i, (w1.alloc (.cells #[.int .i64 4, .int .i64 0, .string ⟨#[]⟩] 42)).frozen? ⟨w.heap.size, i, none⟩ = w1.frozen? ⟨w.heap.size, i, none⟩) := fun i => hal.frozen (p := ⟨w.heap.size, i, none⟩) hsz
        clear hbk hm hok HBY C0 F0 HMV0 hal
        go_wp2_with fail
        refine HCALL.out.mono ?_
        rintro en w2 ⟨hm, rfl⟩
        exact ⟨rfl, HM2.out.trans hm, rfl⟩
      | ok x =>
        obtain ⟨n, q⟩ := x
        have HV : Hid (rdV L p = .ok (⟨4, unzz n, ⟨#[]⟩⟩, q)) := by show _ = _; unfold rdV; rw [hLp]; simp only [hr]; rfl
        rw [HV.out]
        clear HV hr
        go_enter Try.func83, Try.ntmps83
        go_wp2_with fail
        refine HBY.out.mono ?_
        rintro en w1 ⟨hm, rfl, hok⟩
        have hbk := hm.block w.heap.size (by simp) (by omega)
        have hsz : w.heap.size < w1.heap.size := by have := hm.size; simp at this; omega
        have q0 : w1.cell? ⟨w.heap.size, 0, none⟩ = some (.int .i64 0) := (World.cell?_of_block (a := ⟨w.heap.size, 0, none⟩) hbk).trans (C0.out 0)
        have q1 : w1.cell? ⟨w.heap.size, 1, none⟩ = some (.int .i64 0) := (World.cell?_of_block (a := ⟨w.heap.size, 1, none⟩) hbk).trans (C0.out 1)
        have q2 : w1.cell? ⟨w.heap.size, 2, none⟩ = some (.string ⟨#[]⟩) := (World.cell?_of_block (a := ⟨w.heap.size, 2, none⟩) hbk).trans (C0.out 2)
        have g0 : w1.frozen? ⟨w.heap.size, 0, none⟩ = false := (World.frozen?_of_block (a := ⟨w.heap.size, 0, none⟩) hbk).trans (F0.out 0)
        have g1 : w1.frozen? ⟨w.heap.size, 1, none⟩ = false := (World.frozen?_of_block (a := ⟨w.heap.size, 1, none⟩) hbk).trans (F0.out 1)
        have g2 : w1.frozen? ⟨w.heap.size, 2, none⟩ = false := (World.frozen?_of_block (a := ⟨w.heap.size, 2, none⟩) hbk).trans (F0.out 2)
        have HM1 : Hid (Mv bd w w1) := HMV0.out.trans hm
        have hlt1 := hok.lt
        have hal : Below w1.heap.size w1 (w1.alloc (.cells #[.int .i64 4, .int .i64 0, .string ⟨#[]⟩] 42)) := (Below.refl _ _).alloc (Nat.le_refl _) _
        have HCALL := Lib.hid (HI.out B _ (hok.below hal hlt1.2))
        have HM2 : Hid (Mv bd w (w1.alloc (.cells #[.int .i64 4, .int .i64 0, .string ⟨#[]⟩] 42))) := HM1.out.alloc _
        have C1 : Hid (∀ i, (w1.alloc (.cells #[.int .i64 4, .int .i64 0, .string ⟨#[]⟩] 42)).cell? ⟨w1.heap.size, i, none⟩ = (#[.int .i64 4, .int .i64 0, .string ⟨#[]⟩] : Array Value)[i]?) := fun i => World.cell?_alloc_mark w1 _ _ _ i
        have F1 : Hid (∀ i, (w1.alloc (.cells #[.int .i64 4, .int .i64 0, .string ⟨#[]⟩] 42)).frozen? ⟨w1.heap.size, i, none⟩ = false) := fun i => by rw [World.frozen?_alloc_mark]; simp
        have C2 : Hid (∀ i, (w1.alloc (.cells #[.int .i64 4, .int .i64 0, .string ⟨#[]⟩] 42)).cell? ⟨w.heap.size, i, none⟩ = w1.cell? ⟨w.heap.size, i, none⟩) := fun i => hal.cell (p := ⟨w.heap.size, i, none⟩) hsz
        have F2 : Hid (∀ i, (w1.alloc (.cells #[.int .i64 4, .int .i64 0, .string ⟨#[]⟩] 42)).frozen? ⟨w.heap.size, i, none⟩ = w1.frozen? ⟨w.heap.size, i, none⟩) := fun i => hal.frozen (p := ⟨w.heap.size, i, none⟩) hsz
        clear hbk hm hok HBY C0 F0 HMV0 hal
        go_wp2_with fail
        refine HCALL.out.mono ?_
        rintro en w2 ⟨hm, rfl, hok⟩
        have hbu := hm.block w1.heap.size (by simp) (by omega)
        have hbr := hm.block w.heap.size (by simp; omega) (by omega)
        have s0 : w2.cell? ⟨w1.heap.size, 0, none⟩ = some (.int .i64 4) := (World.cell?_of_block (a := ⟨w1.heap.size, 0, none⟩) hbu).trans (C1.out 0)
        have s1 : w2.cell? ⟨w1.heap.size, 1, none⟩ = some (.int .i64 0) := (World.cell?_of_block (a := ⟨w1.heap.size, 1, none⟩) hbu).trans (C1.out 1)
        have s2 : w2.cell? ⟨w1.heap.size, 2, none⟩ = some (.string ⟨#[]⟩) := (World.cell?_of_block (a := ⟨w1.heap.size, 2, none⟩) hbu).trans (C1.out 2)
        have t0 : w2.frozen? ⟨w1.heap.size, 0, none⟩ = false := (World.frozen?_of_block (a := ⟨w1.heap.size, 0, none⟩) hbu).trans (F1.out 0)
        have t1 : w2.frozen? ⟨w1.heap.size, 1, none⟩ = false := (World.frozen?_of_block (a := ⟨w1.heap.size, 1, none⟩) hbu).trans (F1.out 1)
        have t2 : w2.frozen? ⟨w1.heap.size, 2, none⟩ = false := (World.frozen?_of_block (a := ⟨w1.heap.size, 2, none⟩) hbu).trans (F1.out 2)
        have r0 : w2.cell? ⟨w.heap.size, 0, none⟩ = some (.int .i64 0) := (World.cell?_of_block (a := ⟨w.heap.size, 0, none⟩) hbr).trans ((C2.out 0).trans q0)
        have r1 : w2.cell? ⟨w.heap.size, 1, none⟩ = some (.int .i64 0) := (World.cell?_of_block (a := ⟨w.heap.size, 1, none⟩) hbr).trans ((C2.out 1).trans q1)
        have r2 : w2.cell? ⟨w.heap.size, 2, none⟩ = some (.string ⟨#[]⟩) := (World.cell?_of_block (a := ⟨w.heap.size, 2, none⟩) hbr).trans ((C2.out 2).trans q2)
        have f0 : w2.frozen? ⟨w.heap.size, 0, none⟩ = false := (World.frozen?_of_block (a := ⟨w.heap.size, 0, none⟩) hbr).trans ((F2.out 0).trans g0)
        have f1 : w2.frozen? ⟨w.heap.size, 1, none⟩ = false := (World.frozen?_of_block (a := ⟨w.heap.size, 1, none⟩) hbr).trans ((F2.out 1).trans g1)
        have f2 : w2.frozen? ⟨w.heap.size, 2, none⟩ = false := (World.frozen?_of_block (a := ⟨w.heap.size, 2, none⟩) hbr).trans ((F2.out 2).trans g2)
        have hs2 : w1.heap.size < w2.heap.size := by have := hm.size; simp at this; omega
        have HM3 : Hid (Mv bd w w2) := HM2.out.trans hm
        have hne : ¬ w1.heap.size = w.heap.size := by omega
        have hne2 : ¬ w.heap.size = w1.heap.size := by omega
        clear C1 F1 C2 F2 hbu hbr HCALL q0 q1 q2 g0 g1 g2
        have HOK := Lib.hid hok
        clear hm hok
        go_wp2_with fail
        have x0 : (w2.setCell ⟨w1.heap.size, 1, none⟩ (.int .i64 (unzz n))).cell? ⟨w.heap.size, 0, none⟩ = some (.int .i64 0) := by rw [World.cell?_setCell_other _ _ _ _ (by first | (simp; done) | (simp; omega))]; exact r0
        have x1 : (w2.setCell ⟨w1.heap.size, 1, none⟩ (.int .i64 (unzz n))).cell? ⟨w.heap.size, 1, none⟩ = some (.int .i64 0) := by rw [World.cell?_setCell_other _ _ _ _ (by first | (simp; done) | (simp; omega))]; exact r1
        have x2 : (w2.setCell ⟨w1.heap.size, 1, none⟩ (.int .i64 (unzz n))).cell? ⟨w.heap.size, 2, none⟩ = some (.string ⟨#[]⟩) := by rw [World.cell?_setCell_other _ _ _ _ (by first | (simp; done) | (simp; omega))]; exact r2
        obtain ⟨e0, e1, e2⟩ := set3 (.int .i64 4) (.int .i64 (unzz n)) (.string (⟨#[]⟩)) x0 x1 x2
        refine bodyPost_ret (v := .agg #[.int .i64 4, .int .i64 (unzz n), .string (⟨#[]⟩)]) (by simp [results, Try.results83, go_sem, e0, e1, e2]) rfl ⟨(by repeat (first | exact HM3.out | refine Mv.setNew ?_ (by omega) _ _)), rfl, HOK.out.below (B' := B) (by repeat (first | exact Below.refl _ _ | refine Below.setCell ?_ (by simp; omega) _)) (Nat.le_refl _)⟩
    by_cases h5 : k.toNat = 5
    · obtain rfl : k = 5 := by apply UInt8.toNat_inj.1; rw [h5]; rfl
      obtain ⟨r, hr⟩ : ∃ r, rdText L (p + 1) 64 = r := ⟨_, rfl⟩
      have HI : Hid (∀ B W, DecOk bd B L (p + 1) W → Calls Try.prog 81 #[.pointer (some ⟨bd, 0, none⟩), .int .i64 64] W (DecPost bd B L (retT r) W)) := fun B W h => by rw [← hr]; exact dText_any bd B L (p + 1) 64 W h (by omega) hL
      cases r with
      | error e =>
        have HV : Hid (rdV L p = .error e) := by show _ = _; unfold rdV; rw [hLp]; simp only [hr]; rfl
        rw [HV.out]
        clear HV hr
        go_enter Try.func83, Try.ntmps83
        go_wp2_with fail
        refine HBY.out.mono ?_
        rintro en w1 ⟨hm, rfl, hok⟩
        have hbk := hm.block w.heap.size (by simp) (by omega)
        have hsz : w.heap.size < w1.heap.size := by have := hm.size; simp at this; omega
        have q0 : w1.cell? ⟨w.heap.size, 0, none⟩ = some (.int .i64 0) := (World.cell?_of_block (a := ⟨w.heap.size, 0, none⟩) hbk).trans (C0.out 0)
        have q1 : w1.cell? ⟨w.heap.size, 1, none⟩ = some (.int .i64 0) := (World.cell?_of_block (a := ⟨w.heap.size, 1, none⟩) hbk).trans (C0.out 1)
        have q2 : w1.cell? ⟨w.heap.size, 2, none⟩ = some (.string ⟨#[]⟩) := (World.cell?_of_block (a := ⟨w.heap.size, 2, none⟩) hbk).trans (C0.out 2)
        have g0 : w1.frozen? ⟨w.heap.size, 0, none⟩ = false := (World.frozen?_of_block (a := ⟨w.heap.size, 0, none⟩) hbk).trans (F0.out 0)
        have g1 : w1.frozen? ⟨w.heap.size, 1, none⟩ = false := (World.frozen?_of_block (a := ⟨w.heap.size, 1, none⟩) hbk).trans (F0.out 1)
        have g2 : w1.frozen? ⟨w.heap.size, 2, none⟩ = false := (World.frozen?_of_block (a := ⟨w.heap.size, 2, none⟩) hbk).trans (F0.out 2)
        have HM1 : Hid (Mv bd w w1) := HMV0.out.trans hm
        have hlt1 := hok.lt
        have hal : Below w1.heap.size w1 (w1.alloc (.cells #[.int .i64 5, .int .i64 0, .string ⟨#[]⟩] 42)) := (Below.refl _ _).alloc (Nat.le_refl _) _
        have HCALL := Lib.hid (HI.out B _ (hok.below hal hlt1.2))
        have HM2 : Hid (Mv bd w (w1.alloc (.cells #[.int .i64 5, .int .i64 0, .string ⟨#[]⟩] 42))) := HM1.out.alloc _
        have C1 : Hid (∀ i, (w1.alloc (.cells #[.int .i64 5, .int .i64 0, .string ⟨#[]⟩] 42)).cell? ⟨w1.heap.size, i, none⟩ = (#[.int .i64 5, .int .i64 0, .string ⟨#[]⟩] : Array Value)[i]?) := fun i => World.cell?_alloc_mark w1 _ _ _ i
        have F1 : Hid (∀ i, (w1.alloc (.cells #[.int .i64 5, .int .i64 0, .string ⟨#[]⟩] 42)).frozen? ⟨w1.heap.size, i, none⟩ = false) := fun i => by rw [World.frozen?_alloc_mark]; simp
        have C2 : Hid (∀ i, (w1.alloc (.cells #[.int .i64 5, .int .i64 0, .string ⟨#[]⟩] 42)).cell? ⟨w.heap.size, i, none⟩ = w1.cell? ⟨w.heap.size, i, none⟩) := fun i => hal.cell (p := ⟨w.heap.size, i, none⟩) hsz
        have F2 : Hid (∀ i, (w1.alloc (.cells #[.int .i64 5, .int .i64 0, .string ⟨#[]⟩] 42)).frozen? ⟨w.heap.size, i, none⟩ = w1.frozen? ⟨w.heap.size, i, none⟩) := fun i => hal.frozen (p := ⟨w.heap.size, i, none⟩) hsz
        clear hbk hm hok HBY C0 F0 HMV0 hal
        go_wp2_with fail
        refine HCALL.out.mono ?_
        rintro en w2 ⟨hm, rfl⟩
        exact ⟨rfl, HM2.out.trans hm, rfl⟩
      | ok x =>
        obtain ⟨s, q⟩ := x
        have HV : Hid (rdV L p = .ok (⟨5, 0, ⟨s.toArray⟩⟩, q)) := by show _ = _; unfold rdV; rw [hLp]; simp only [hr]; rfl
        rw [HV.out]
        clear HV hr
        go_enter Try.func83, Try.ntmps83
        go_wp2_with fail
        refine HBY.out.mono ?_
        rintro en w1 ⟨hm, rfl, hok⟩
        have hbk := hm.block w.heap.size (by simp) (by omega)
        have hsz : w.heap.size < w1.heap.size := by have := hm.size; simp at this; omega
        have q0 : w1.cell? ⟨w.heap.size, 0, none⟩ = some (.int .i64 0) := (World.cell?_of_block (a := ⟨w.heap.size, 0, none⟩) hbk).trans (C0.out 0)
        have q1 : w1.cell? ⟨w.heap.size, 1, none⟩ = some (.int .i64 0) := (World.cell?_of_block (a := ⟨w.heap.size, 1, none⟩) hbk).trans (C0.out 1)
        have q2 : w1.cell? ⟨w.heap.size, 2, none⟩ = some (.string ⟨#[]⟩) := (World.cell?_of_block (a := ⟨w.heap.size, 2, none⟩) hbk).trans (C0.out 2)
        have g0 : w1.frozen? ⟨w.heap.size, 0, none⟩ = false := (World.frozen?_of_block (a := ⟨w.heap.size, 0, none⟩) hbk).trans (F0.out 0)
        have g1 : w1.frozen? ⟨w.heap.size, 1, none⟩ = false := (World.frozen?_of_block (a := ⟨w.heap.size, 1, none⟩) hbk).trans (F0.out 1)
        have g2 : w1.frozen? ⟨w.heap.size, 2, none⟩ = false := (World.frozen?_of_block (a := ⟨w.heap.size, 2, none⟩) hbk).trans (F0.out 2)
        have HM1 : Hid (Mv bd w w1) := HMV0.out.trans hm
        have hlt1 := hok.lt
        have hal : Below w1.heap.size w1 (w1.alloc (.cells #[.int .i64 5, .int .i64 0, .string ⟨#[]⟩] 42)) := (Below.refl _ _).alloc (Nat.le_refl _) _
        have HCALL := Lib.hid (HI.out B _ (hok.below hal hlt1.2))
        have HM2 : Hid (Mv bd w (w1.alloc (.cells #[.int .i64 5, .int .i64 0, .string ⟨#[]⟩] 42))) := HM1.out.alloc _
        have C1 : Hid (∀ i, (w1.alloc (.cells #[.int .i64 5, .int .i64 0, .string ⟨#[]⟩] 42)).cell? ⟨w1.heap.size, i, none⟩ = (#[.int .i64 5, .int .i64 0, .string ⟨#[]⟩] : Array Value)[i]?) := fun i => World.cell?_alloc_mark w1 _ _ _ i
        have F1 : Hid (∀ i, (w1.alloc (.cells #[.int .i64 5, .int .i64 0, .string ⟨#[]⟩] 42)).frozen? ⟨w1.heap.size, i, none⟩ = false) := fun i => by rw [World.frozen?_alloc_mark]; simp
        have C2 : Hid (∀ i, (w1.alloc (.cells #[.int .i64 5, .int .i64 0, .string ⟨#[]⟩] 42)).cell? ⟨w.heap.size, i, none⟩ = w1.cell? ⟨w.heap.size, i, none⟩) := fun i => hal.cell (p := ⟨w.heap.size, i, none⟩) hsz
        have F2 : Hid (∀ i, (w1.alloc (.cells #[.int .i64 5, .int .i64 0, .string ⟨#[]⟩] 42)).frozen? ⟨w.heap.size, i, none⟩ = w1.frozen? ⟨w.heap.size, i, none⟩) := fun i => hal.frozen (p := ⟨w.heap.size, i, none⟩) hsz
        clear hbk hm hok HBY C0 F0 HMV0 hal
        go_wp2_with fail
        refine HCALL.out.mono ?_
        rintro en w2 ⟨hm, rfl, hok⟩
        have hbu := hm.block w1.heap.size (by simp) (by omega)
        have hbr := hm.block w.heap.size (by simp; omega) (by omega)
        have s0 : w2.cell? ⟨w1.heap.size, 0, none⟩ = some (.int .i64 5) := (World.cell?_of_block (a := ⟨w1.heap.size, 0, none⟩) hbu).trans (C1.out 0)
        have s1 : w2.cell? ⟨w1.heap.size, 1, none⟩ = some (.int .i64 0) := (World.cell?_of_block (a := ⟨w1.heap.size, 1, none⟩) hbu).trans (C1.out 1)
        have s2 : w2.cell? ⟨w1.heap.size, 2, none⟩ = some (.string ⟨#[]⟩) := (World.cell?_of_block (a := ⟨w1.heap.size, 2, none⟩) hbu).trans (C1.out 2)
        have t0 : w2.frozen? ⟨w1.heap.size, 0, none⟩ = false := (World.frozen?_of_block (a := ⟨w1.heap.size, 0, none⟩) hbu).trans (F1.out 0)
        have t1 : w2.frozen? ⟨w1.heap.size, 1, none⟩ = false := (World.frozen?_of_block (a := ⟨w1.heap.size, 1, none⟩) hbu).trans (F1.out 1)
        have t2 : w2.frozen? ⟨w1.heap.size, 2, none⟩ = false := (World.frozen?_of_block (a := ⟨w1.heap.size, 2, none⟩) hbu).trans (F1.out 2)
        have r0 : w2.cell? ⟨w.heap.size, 0, none⟩ = some (.int .i64 0) := (World.cell?_of_block (a := ⟨w.heap.size, 0, none⟩) hbr).trans ((C2.out 0).trans q0)
        have r1 : w2.cell? ⟨w.heap.size, 1, none⟩ = some (.int .i64 0) := (World.cell?_of_block (a := ⟨w.heap.size, 1, none⟩) hbr).trans ((C2.out 1).trans q1)
        have r2 : w2.cell? ⟨w.heap.size, 2, none⟩ = some (.string ⟨#[]⟩) := (World.cell?_of_block (a := ⟨w.heap.size, 2, none⟩) hbr).trans ((C2.out 2).trans q2)
        have f0 : w2.frozen? ⟨w.heap.size, 0, none⟩ = false := (World.frozen?_of_block (a := ⟨w.heap.size, 0, none⟩) hbr).trans ((F2.out 0).trans g0)
        have f1 : w2.frozen? ⟨w.heap.size, 1, none⟩ = false := (World.frozen?_of_block (a := ⟨w.heap.size, 1, none⟩) hbr).trans ((F2.out 1).trans g1)
        have f2 : w2.frozen? ⟨w.heap.size, 2, none⟩ = false := (World.frozen?_of_block (a := ⟨w.heap.size, 2, none⟩) hbr).trans ((F2.out 2).trans g2)
        have hs2 : w1.heap.size < w2.heap.size := by have := hm.size; simp at this; omega
        have HM3 : Hid (Mv bd w w2) := HM2.out.trans hm
        have hne : ¬ w1.heap.size = w.heap.size := by omega
        have hne2 : ¬ w.heap.size = w1.heap.size := by omega
        clear C1 F1 C2 F2 hbu hbr HCALL q0 q1 q2 g0 g1 g2
        have HOK := Lib.hid hok
        clear hm hok
        go_wp2_with fail
        have x0 : (w2.setCell ⟨w1.heap.size, 2, none⟩ (.string ⟨s.toArray⟩)).cell? ⟨w.heap.size, 0, none⟩ = some (.int .i64 0) := by rw [World.cell?_setCell_other _ _ _ _ (by first | (simp; done) | (simp; omega))]; exact r0
        have x1 : (w2.setCell ⟨w1.heap.size, 2, none⟩ (.string ⟨s.toArray⟩)).cell? ⟨w.heap.size, 1, none⟩ = some (.int .i64 0) := by rw [World.cell?_setCell_other _ _ _ _ (by first | (simp; done) | (simp; omega))]; exact r1
        have x2 : (w2.setCell ⟨w1.heap.size, 2, none⟩ (.string ⟨s.toArray⟩)).cell? ⟨w.heap.size, 2, none⟩ = some (.string ⟨#[]⟩) := by rw [World.cell?_setCell_other _ _ _ _ (by first | (simp; done) | (simp; omega))]; exact r2
        obtain ⟨e0, e1, e2⟩ := set3 (.int .i64 5) (.int .i64 (0)) (.string (⟨s.toArray⟩)) x0 x1 x2
        refine bodyPost_ret (v := .agg #[.int .i64 5, .int .i64 (0), .string (⟨s.toArray⟩)]) (by simp [results, Try.results83, go_sem, e0, e1, e2]) rfl ⟨(by repeat (first | exact HM3.out | refine Mv.setNew ?_ (by omega) _ _)), rfl, HOK.out.below (B' := B) (by repeat (first | exact Below.refl _ _ | refine Below.setCell ?_ (by simp; omega) _)) (Nat.le_refl _)⟩
    by_cases h3 : k.toNat = 3
    · obtain rfl : k = 3 := by apply UInt8.toNat_inj.1; rw [h3]; rfl
      by_cases hp1 : p + 1 < L.length
      · obtain ⟨b, hb⟩ : ∃ b, L[p + 1] = b := ⟨_, rfl⟩
        have hLp1 : L[p + 1]? = some b := by rw [List.getElem?_eq_getElem hp1, hb]
        have HI : Hid (∀ B W, DecOk bd B L (p + 1) W → Calls Try.prog 96 #[.pointer (some ⟨bd, 0, none⟩)] W (DecPost bd B L (.ok (.int .u8 (b.toNat : Int), p + 1 + 1)) W)) := fun B W h => by
          have := dByte_any bd B L (p + 1) W h
          rwa [hLp1] at this
        obtain ⟨y, hy⟩ : ∃ y, b.toNat = y := ⟨_, rfl⟩
        have hy2 : y < 256 := by rw [← hy]; exact b.toNat_lt
        simp only [hy] at HI
        by_cases hle : y ≤ 1
        · have HV : Hid (rdV L p = .ok (⟨3, y, ⟨#[]⟩⟩, p + 1 + 1)) := by show _ = _; unfold rdV; rw [hLp]; simp only [hLp1, hy, if_pos hle]; rfl
          rw [HV.out]
          have HQ := Lib.hid (req_yes 21)
          have dy : decide ((y : Int) ≤ 1) = true := decide_eq_true (by omega)
          have dy' : decide (y ≤ 1) = true := decide_eq_true (by omega)
          clear HV hb hLp1 hy
          go_enter Try.func83, Try.ntmps83
          go_wp2_with fail
          refine HBY.out.mono ?_
          rintro en w1 ⟨hm, rfl, hok⟩
          have hbk := hm.block w.heap.size (by simp) (by omega)
          have hsz : w.heap.size < w1.heap.size := by have := hm.size; simp at this; omega
          have q0 : w1.cell? ⟨w.heap.size, 0, none⟩ = some (.int .i64 0) := (World.cell?_of_block (a := ⟨w.heap.size, 0, none⟩) hbk).trans (C0.out 0)
          have q1 : w1.cell? ⟨w.heap.size, 1, none⟩ = some (.int .i64 0) := (World.cell?_of_block (a := ⟨w.heap.size, 1, none⟩) hbk).trans (C0.out 1)
          have q2 : w1.cell? ⟨w.heap.size, 2, none⟩ = some (.string ⟨#[]⟩) := (World.cell?_of_block (a := ⟨w.heap.size, 2, none⟩) hbk).trans (C0.out 2)
          have g0 : w1.frozen? ⟨w.heap.size, 0, none⟩ = false := (World.frozen?_of_block (a := ⟨w.heap.size, 0, none⟩) hbk).trans (F0.out 0)
          have g1 : w1.frozen? ⟨w.heap.size, 1, none⟩ = false := (World.frozen?_of_block (a := ⟨w.heap.size, 1, none⟩) hbk).trans (F0.out 1)
          have g2 : w1.frozen? ⟨w.heap.size, 2, none⟩ = false := (World.frozen?_of_block (a := ⟨w.heap.size, 2, none⟩) hbk).trans (F0.out 2)
          have HM1 : Hid (Mv bd w w1) := HMV0.out.trans hm
          have hlt1 := hok.lt
          have hal : Below w1.heap.size w1 (w1.alloc (.cells #[.int .i64 3, .int .i64 0, .string ⟨#[]⟩] 42)) := (Below.refl _ _).alloc (Nat.le_refl _) _
          have HCALL := Lib.hid (HI.out B _ (hok.below hal hlt1.2))
          have HM2 : Hid (Mv bd w (w1.alloc (.cells #[.int .i64 3, .int .i64 0, .string ⟨#[]⟩] 42))) := HM1.out.alloc _
          have C1 : Hid (∀ i, (w1.alloc (.cells #[.int .i64 3, .int .i64 0, .string ⟨#[]⟩] 42)).cell? ⟨w1.heap.size, i, none⟩ = (#[.int .i64 3, .int .i64 0, .string ⟨#[]⟩] : Array Value)[i]?) := fun i => World.cell?_alloc_mark w1 _ _ _ i
          have F1 : Hid (∀ i, (w1.alloc (.cells #[.int .i64 3, .int .i64 0, .string ⟨#[]⟩] 42)).frozen? ⟨w1.heap.size, i, none⟩ = false) := fun i => by rw [World.frozen?_alloc_mark]; simp
          have C2 : Hid (∀ i, (w1.alloc (.cells #[.int .i64 3, .int .i64 0, .string ⟨#[]⟩] 42)).cell? ⟨w.heap.size, i, none⟩ = w1.cell? ⟨w.heap.size, i, none⟩) := fun i => hal.cell (p := ⟨w.heap.size, i, none⟩) hsz
          have F2 : Hid (∀ i, (w1.alloc (.cells #[.int .i64 3, .int .i64 0, .string ⟨#[]⟩] 42)).frozen? ⟨w.heap.size, i, none⟩ = w1.frozen? ⟨w.heap.size, i, none⟩) := fun i => hal.frozen (p := ⟨w.heap.size, i, none⟩) hsz
          clear hbk hm hok HBY C0 F0 HMV0 hal
          go_wp2_with fail
          refine HCALL.out.mono ?_
          rintro en w2 ⟨hm, rfl, hok⟩
          have hbu := hm.block w1.heap.size (by simp) (by omega)
          have hbr := hm.block w.heap.size (by simp; omega) (by omega)
          have s0 : w2.cell? ⟨w1.heap.size, 0, none⟩ = some (.int .i64 3) := (World.cell?_of_block (a := ⟨w1.heap.size, 0, none⟩) hbu).trans (C1.out 0)
          have s1 : w2.cell? ⟨w1.heap.size, 1, none⟩ = some (.int .i64 0) := (World.cell?_of_block (a := ⟨w1.heap.size, 1, none⟩) hbu).trans (C1.out 1)
          have s2 : w2.cell? ⟨w1.heap.size, 2, none⟩ = some (.string ⟨#[]⟩) := (World.cell?_of_block (a := ⟨w1.heap.size, 2, none⟩) hbu).trans (C1.out 2)
          have t0 : w2.frozen? ⟨w1.heap.size, 0, none⟩ = false := (World.frozen?_of_block (a := ⟨w1.heap.size, 0, none⟩) hbu).trans (F1.out 0)
          have t1 : w2.frozen? ⟨w1.heap.size, 1, none⟩ = false := (World.frozen?_of_block (a := ⟨w1.heap.size, 1, none⟩) hbu).trans (F1.out 1)
          have t2 : w2.frozen? ⟨w1.heap.size, 2, none⟩ = false := (World.frozen?_of_block (a := ⟨w1.heap.size, 2, none⟩) hbu).trans (F1.out 2)
          have r0 : w2.cell? ⟨w.heap.size, 0, none⟩ = some (.int .i64 0) := (World.cell?_of_block (a := ⟨w.heap.size, 0, none⟩) hbr).trans ((C2.out 0).trans q0)
          have r1 : w2.cell? ⟨w.heap.size, 1, none⟩ = some (.int .i64 0) := (World.cell?_of_block (a := ⟨w.heap.size, 1, none⟩) hbr).trans ((C2.out 1).trans q1)
          have r2 : w2.cell? ⟨w.heap.size, 2, none⟩ = some (.string ⟨#[]⟩) := (World.cell?_of_block (a := ⟨w.heap.size, 2, none⟩) hbr).trans ((C2.out 2).trans q2)
          have f0 : w2.frozen? ⟨w.heap.size, 0, none⟩ = false := (World.frozen?_of_block (a := ⟨w.heap.size, 0, none⟩) hbr).trans ((F2.out 0).trans g0)
          have f1 : w2.frozen? ⟨w.heap.size, 1, none⟩ = false := (World.frozen?_of_block (a := ⟨w.heap.size, 1, none⟩) hbr).trans ((F2.out 1).trans g1)
          have f2 : w2.frozen? ⟨w.heap.size, 2, none⟩ = false := (World.frozen?_of_block (a := ⟨w.heap.size, 2, none⟩) hbr).trans ((F2.out 2).trans g2)
          have hs2 : w1.heap.size < w2.heap.size := by have := hm.size; simp at this; omega
          have HM3 : Hid (Mv bd w w2) := HM2.out.trans hm
          have hne : ¬ w1.heap.size = w.heap.size := by omega
          have hne2 : ¬ w.heap.size = w1.heap.size := by omega
          clear C1 F1 C2 F2 hbu hbr HCALL q0 q1 q2 g0 g1 g2
          have HOK := Lib.hid hok
          clear hm hok
          have hz1 : (w2.setCell ⟨w1.heap.size, 1, none⟩ (.int .i64 y)).cell? ⟨w1.heap.size, 1, none⟩ = some (.int .i64 y) := World.cell?_setCell_same (v := .int .i64 y) (h := s1)
          go_wp2_with fail
          refine (HQ.out _).mono ?_
          rintro en w9 ⟨rfl, e9⟩
          subst w9
          go_wp2_with fail
          have x0 : (w2.setCell ⟨w1.heap.size, 1, none⟩ (.int .i64 y)).cell? ⟨w.heap.size, 0, none⟩ = some (.int .i64 0) := by rw [World.cell?_setCell_other _ _ _ _ (by first | (simp; done) | (simp; omega))]; exact r0
          have x1 : (w2.setCell ⟨w1.heap.size, 1, none⟩ (.int .i64 y)).cell? ⟨w.heap.size, 1, none⟩ = some (.int .i64 0) := by rw [World.cell?_setCell_other _ _ _ _ (by first | (simp; done) | (simp; omega))]; exact r1
          have x2 : (w2.setCell ⟨w1.heap.size, 1, none⟩ (.int .i64 y)).cell? ⟨w.heap.size, 2, none⟩ = some (.string ⟨#[]⟩) := by rw [World.cell?_setCell_other _ _ _ _ (by first | (simp; done) | (simp; omega))]; exact r2
          obtain ⟨e0, e1, e2⟩ := set3 (.int .i64 3) (.int .i64 (y)) (.string (⟨#[]⟩)) x0 x1 x2
          refine bodyPost_ret (v := .agg #[.int .i64 3, .int .i64 (y), .string (⟨#[]⟩)]) (by simp [results, Try.results83, go_sem, e0, e1, e2]) rfl ⟨(by repeat (first | exact HM3.out | refine Mv.setNew ?_ (by omega) _ _)), rfl, HOK.out.below (B' := B) (by repeat (first | exact Below.refl _ _ | refine Below.setCell ?_ (by simp; omega) _)) (Nat.le_refl _)⟩
        · have HV : Hid (rdV L p = .error 21) := by show _ = _; unfold rdV; rw [hLp]; simp only [hLp1, hy, if_neg hle]; rfl
          rw [HV.out]
          have HQ := Lib.hid (req_no 21)
          have dy : decide ((y : Int) ≤ 1) = false := decide_eq_false (by omega)
          have dy' : decide (y ≤ 1) = false := decide_eq_false (by omega)
          clear HV hb hLp1 hy
          go_enter Try.func83, Try.ntmps83
          go_wp2_with fail
          refine HBY.out.mono ?_
          rintro en w1 ⟨hm, rfl, hok⟩
          have hbk := hm.block w.heap.size (by simp) (by omega)
          have hsz : w.heap.size < w1.heap.size := by have := hm.size; simp at this; omega
          have q0 : w1.cell? ⟨w.heap.size, 0, none⟩ = some (.int .i64 0) := (World.cell?_of_block (a := ⟨w.heap.size, 0, none⟩) hbk).trans (C0.out 0)
          have q1 : w1.cell? ⟨w.heap.size, 1, none⟩ = some (.int .i64 0) := (World.cell?_of_block (a := ⟨w.heap.size, 1, none⟩) hbk).trans (C0.out 1)
          have q2 : w1.cell? ⟨w.heap.size, 2, none⟩ = some (.string ⟨#[]⟩) := (World.cell?_of_block (a := ⟨w.heap.size, 2, none⟩) hbk).trans (C0.out 2)
          have g0 : w1.frozen? ⟨w.heap.size, 0, none⟩ = false := (World.frozen?_of_block (a := ⟨w.heap.size, 0, none⟩) hbk).trans (F0.out 0)
          have g1 : w1.frozen? ⟨w.heap.size, 1, none⟩ = false := (World.frozen?_of_block (a := ⟨w.heap.size, 1, none⟩) hbk).trans (F0.out 1)
          have g2 : w1.frozen? ⟨w.heap.size, 2, none⟩ = false := (World.frozen?_of_block (a := ⟨w.heap.size, 2, none⟩) hbk).trans (F0.out 2)
          have HM1 : Hid (Mv bd w w1) := HMV0.out.trans hm
          have hlt1 := hok.lt
          have hal : Below w1.heap.size w1 (w1.alloc (.cells #[.int .i64 3, .int .i64 0, .string ⟨#[]⟩] 42)) := (Below.refl _ _).alloc (Nat.le_refl _) _
          have HCALL := Lib.hid (HI.out B _ (hok.below hal hlt1.2))
          have HM2 : Hid (Mv bd w (w1.alloc (.cells #[.int .i64 3, .int .i64 0, .string ⟨#[]⟩] 42))) := HM1.out.alloc _
          have C1 : Hid (∀ i, (w1.alloc (.cells #[.int .i64 3, .int .i64 0, .string ⟨#[]⟩] 42)).cell? ⟨w1.heap.size, i, none⟩ = (#[.int .i64 3, .int .i64 0, .string ⟨#[]⟩] : Array Value)[i]?) := fun i => World.cell?_alloc_mark w1 _ _ _ i
          have F1 : Hid (∀ i, (w1.alloc (.cells #[.int .i64 3, .int .i64 0, .string ⟨#[]⟩] 42)).frozen? ⟨w1.heap.size, i, none⟩ = false) := fun i => by rw [World.frozen?_alloc_mark]; simp
          have C2 : Hid (∀ i, (w1.alloc (.cells #[.int .i64 3, .int .i64 0, .string ⟨#[]⟩] 42)).cell? ⟨w.heap.size, i, none⟩ = w1.cell? ⟨w.heap.size, i, none⟩) := fun i => hal.cell (p := ⟨w.heap.size, i, none⟩) hsz
          have F2 : Hid (∀ i, (w1.alloc (.cells #[.int .i64 3, .int .i64 0, .string ⟨#[]⟩] 42)).frozen? ⟨w.heap.size, i, none⟩ = w1.frozen? ⟨w.heap.size, i, none⟩) := fun i => hal.frozen (p := ⟨w.heap.size, i, none⟩) hsz
          clear hbk hm hok HBY C0 F0 HMV0 hal
          go_wp2_with fail
          refine HCALL.out.mono ?_
          rintro en w2 ⟨hm, rfl, hok⟩
          have hbu := hm.block w1.heap.size (by simp) (by omega)
          have hbr := hm.block w.heap.size (by simp; omega) (by omega)
          have s0 : w2.cell? ⟨w1.heap.size, 0, none⟩ = some (.int .i64 3) := (World.cell?_of_block (a := ⟨w1.heap.size, 0, none⟩) hbu).trans (C1.out 0)
          have s1 : w2.cell? ⟨w1.heap.size, 1, none⟩ = some (.int .i64 0) := (World.cell?_of_block (a := ⟨w1.heap.size, 1, none⟩) hbu).trans (C1.out 1)
          have s2 : w2.cell? ⟨w1.heap.size, 2, none⟩ = some (.string ⟨#[]⟩) := (World.cell?_of_block (a := ⟨w1.heap.size, 2, none⟩) hbu).trans (C1.out 2)
          have t0 : w2.frozen? ⟨w1.heap.size, 0, none⟩ = false := (World.frozen?_of_block (a := ⟨w1.heap.size, 0, none⟩) hbu).trans (F1.out 0)
          have t1 : w2.frozen? ⟨w1.heap.size, 1, none⟩ = false := (World.frozen?_of_block (a := ⟨w1.heap.size, 1, none⟩) hbu).trans (F1.out 1)
          have t2 : w2.frozen? ⟨w1.heap.size, 2, none⟩ = false := (World.frozen?_of_block (a := ⟨w1.heap.size, 2, none⟩) hbu).trans (F1.out 2)
          have r0 : w2.cell? ⟨w.heap.size, 0, none⟩ = some (.int .i64 0) := (World.cell?_of_block (a := ⟨w.heap.size, 0, none⟩) hbr).trans ((C2.out 0).trans q0)
          have r1 : w2.cell? ⟨w.heap.size, 1, none⟩ = some (.int .i64 0) := (World.cell?_of_block (a := ⟨w.heap.size, 1, none⟩) hbr).trans ((C2.out 1).trans q1)
          have r2 : w2.cell? ⟨w.heap.size, 2, none⟩ = some (.string ⟨#[]⟩) := (World.cell?_of_block (a := ⟨w.heap.size, 2, none⟩) hbr).trans ((C2.out 2).trans q2)
          have f0 : w2.frozen? ⟨w.heap.size, 0, none⟩ = false := (World.frozen?_of_block (a := ⟨w.heap.size, 0, none⟩) hbr).trans ((F2.out 0).trans g0)
          have f1 : w2.frozen? ⟨w.heap.size, 1, none⟩ = false := (World.frozen?_of_block (a := ⟨w.heap.size, 1, none⟩) hbr).trans ((F2.out 1).trans g1)
          have f2 : w2.frozen? ⟨w.heap.size, 2, none⟩ = false := (World.frozen?_of_block (a := ⟨w.heap.size, 2, none⟩) hbr).trans ((F2.out 2).trans g2)
          have hs2 : w1.heap.size < w2.heap.size := by have := hm.size; simp at this; omega
          have HM3 : Hid (Mv bd w w2) := HM2.out.trans hm
          have hne : ¬ w1.heap.size = w.heap.size := by omega
          have hne2 : ¬ w.heap.size = w1.heap.size := by omega
          clear C1 F1 C2 F2 hbu hbr HCALL q0 q1 q2 g0 g1 g2
          have hz1 : (w2.setCell ⟨w1.heap.size, 1, none⟩ (.int .i64 y)).cell? ⟨w1.heap.size, 1, none⟩ = some (.int .i64 y) := World.cell?_setCell_same (v := .int .i64 y) (h := s1)
          clear hm hok
          go_wp2_with fail
          refine (HQ.out _).mono ?_
          rintro en w9 ⟨rfl, e9⟩
          subst w9
          exact ⟨rfl, (by repeat (first | exact HM3.out | refine Mv.setNew ?_ (by omega) _ _)), rfl⟩
      · have hLp1 : L[p + 1]? = none := List.getElem?_eq_none (by omega)
        have HV : Hid (rdV L p = .error 20) := by show _ = _; unfold rdV; rw [hLp]; simp only [hLp1]; rfl
        rw [HV.out]
        have HI : Hid (∀ B W, DecOk bd B L (p + 1) W → Calls Try.prog 96 #[.pointer (some ⟨bd, 0, none⟩)] W (DecPost bd B L (.error 20) W)) := fun B W h => by
          have := dByte_any bd B L (p + 1) W h
          rwa [hLp1] at this
        clear HV hLp1
        go_enter Try.func83, Try.ntmps83
        go_wp2_with fail
        refine HBY.out.mono ?_
        rintro en w1 ⟨hm, rfl, hok⟩
        have hbk := hm.block w.heap.size (by simp) (by omega)
        have hsz : w.heap.size < w1.heap.size := by have := hm.size; simp at this; omega
        have q0 : w1.cell? ⟨w.heap.size, 0, none⟩ = some (.int .i64 0) := (World.cell?_of_block (a := ⟨w.heap.size, 0, none⟩) hbk).trans (C0.out 0)
        have q1 : w1.cell? ⟨w.heap.size, 1, none⟩ = some (.int .i64 0) := (World.cell?_of_block (a := ⟨w.heap.size, 1, none⟩) hbk).trans (C0.out 1)
        have q2 : w1.cell? ⟨w.heap.size, 2, none⟩ = some (.string ⟨#[]⟩) := (World.cell?_of_block (a := ⟨w.heap.size, 2, none⟩) hbk).trans (C0.out 2)
        have g0 : w1.frozen? ⟨w.heap.size, 0, none⟩ = false := (World.frozen?_of_block (a := ⟨w.heap.size, 0, none⟩) hbk).trans (F0.out 0)
        have g1 : w1.frozen? ⟨w.heap.size, 1, none⟩ = false := (World.frozen?_of_block (a := ⟨w.heap.size, 1, none⟩) hbk).trans (F0.out 1)
        have g2 : w1.frozen? ⟨w.heap.size, 2, none⟩ = false := (World.frozen?_of_block (a := ⟨w.heap.size, 2, none⟩) hbk).trans (F0.out 2)
        have HM1 : Hid (Mv bd w w1) := HMV0.out.trans hm
        have hlt1 := hok.lt
        have hal : Below w1.heap.size w1 (w1.alloc (.cells #[.int .i64 3, .int .i64 0, .string ⟨#[]⟩] 42)) := (Below.refl _ _).alloc (Nat.le_refl _) _
        have HCALL := Lib.hid (HI.out B _ (hok.below hal hlt1.2))
        have HM2 : Hid (Mv bd w (w1.alloc (.cells #[.int .i64 3, .int .i64 0, .string ⟨#[]⟩] 42))) := HM1.out.alloc _
        have C1 : Hid (∀ i, (w1.alloc (.cells #[.int .i64 3, .int .i64 0, .string ⟨#[]⟩] 42)).cell? ⟨w1.heap.size, i, none⟩ = (#[.int .i64 3, .int .i64 0, .string ⟨#[]⟩] : Array Value)[i]?) := fun i => World.cell?_alloc_mark w1 _ _ _ i
        have F1 : Hid (∀ i, (w1.alloc (.cells #[.int .i64 3, .int .i64 0, .string ⟨#[]⟩] 42)).frozen? ⟨w1.heap.size, i, none⟩ = false) := fun i => by rw [World.frozen?_alloc_mark]; simp
        have C2 : Hid (∀ i, (w1.alloc (.cells #[.int .i64 3, .int .i64 0, .string ⟨#[]⟩] 42)).cell? ⟨w.heap.size, i, none⟩ = w1.cell? ⟨w.heap.size, i, none⟩) := fun i => hal.cell (p := ⟨w.heap.size, i, none⟩) hsz
        have F2 : Hid (∀ i, (w1.alloc (.cells #[.int .i64 3, .int .i64 0, .string ⟨#[]⟩] 42)).frozen? ⟨w.heap.size, i, none⟩ = w1.frozen? ⟨w.heap.size, i, none⟩) := fun i => hal.frozen (p := ⟨w.heap.size, i, none⟩) hsz
        clear hbk hm hok HBY C0 F0 HMV0 hal
        go_wp2_with fail
        refine HCALL.out.mono ?_
        rintro en w2 ⟨hm, rfl⟩
        exact ⟨rfl, HM2.out.trans hm, rfl⟩
    · have HV : Hid (rdV L p = .error 21) := by show _ = _; unfold rdV; rw [hLp]; simp only; rw [if_neg (by omega), if_neg h3, if_neg h4, if_neg h5]
      rw [HV.out]
      obtain ⟨x, hx⟩ : ∃ x, k.toNat = x := ⟨_, rfl⟩
      have hx2 : x < 256 := by rw [← hx]; exact k.toNat_lt
      simp only [hx] at HBY h1 h2 h3 h4 h5
      have y1 : ((x : Int) == 1) = false := by simp; omega
      have y2 : ((x : Int) == 2) = false := by simp; omega
      have y3 : ((x : Int) == 3) = false := by simp; omega
      have y4 : ((x : Int) == 4) = false := by simp; omega
      have y5 : ((x : Int) == 5) = false := by simp; omega
      clear HV
      go_enter Try.func83, Try.ntmps83
      go_wp2_with fail
      refine HBY.out.mono ?_
      rintro en w1 ⟨hm, rfl, hok⟩
      have HM1 : Hid (Mv bd w w1) := HMV0.out.trans hm
      clear hm hok HBY C0 F0 HMV0
      go_wp2_with fail
      exact ⟨rfl, (by repeat (first | exact HM1.out | refine Mv.alloc ?_ _)), rfl⟩
  · have hLp : L[p]? = none := List.getElem?_eq_none (by omega)
    rw [hLp] at HBY
    have HV : Hid (rdV L p = .error 20) := by show _ = _; unfold rdV; rw [hLp]
    rw [HV.out]
    clear HV
    go_enter Try.func83, Try.ntmps83
    go_wp2_with fail
    refine HBY.out.mono ?_
    rintro en w1 ⟨hm, rfl⟩
    exact ⟨rfl, HMV0.out.trans hm, rfl⟩
end Go.Proofs.Ytkhbephcmcnfjaa
