/- The exported readers of values and rows. -/
import Derived.Test.YtkhbephcmcnfjaaDecRow
namespace Go.Proofs.Ytkhbephcmcnfjaa
open Go.RowKit Go.Deep

theorem rowAt_nil (w : World) : RowAt w (.slice none 0 0) [] := ⟨none, 0, rfl, by simp, fun i h => absurd h (by simp)⟩

/-- What is read as a row at a place: the row, the place behind it, the error code. -/
def readR (L : List UInt8) (p : Int) : List V × Nat × Int := if p < 0 ∨ (L.length : Int) < p then ([], 0, 1) else match rdRow L p.toNat with
  | .error e => ([], 0, e)
  | .ok (n, q) => (n, q, 0)

set_option maxRecDepth 100000 in
theorem eRow_any (v : Value) (L : List UInt8) (p : Int) (w : World) (h : Reads w v L) (hL : L.length ≤ 4398046511104) : Calls Try.prog 48 #[v, .int .i64 p] w fun e w' => ∃ rv, e = .returned (.tuple #[rv, .int .i64 ((readR L p).2.1 : Int), .int .i64 (readR L p).2.2]) ∧ RowAt w' rv (readR L p).1 ∧ Below w.heap.size w w' := by
  have hmf : ∀ (fn : Fn) (first cap : Array Value) (w : World), (Instr.makeFunc fn first cap).run Try.prog w = .ok (.func fn first cap) w := fun _ _ _ _ => rfl
  have hbl : Below w.heap.size w (w.alloc (.cells #[.int .i64 0] 44)) := (Below.refl _ _).alloc (Nat.le_refl _) _
  have hr2 := h.below hbl
  have HBL := Lib.hid hbl
  have c0 := World.cell?_alloc_mark w #[.int .i64 0] 44 (0, 0) 0
  have f0 : (w.alloc (.cells #[.int .i64 0] 44)).frozen? ⟨w.heap.size, 0, none⟩ = false := by rw [World.frozen?_alloc_mark]; simp
  have C0 := Lib.hid c0
  have F0 := Lib.hid f0
  by_cases hp : p < 0 ∨ (L.length : Int) < p
  · have hE : readR L p = ([], 0, 1) := if_pos hp
    rw [hE]
    have HS := Lib.hid (start_bad v L p _ hr2 hp)
    clear hr2 hbl h c0 f0 hE
    go_enter_defers Try.func48, Try.ntmps48
    go_wp2_with fail
    refine HS.out.mono ?_
    rintro e w1 ⟨rfl, hb⟩
    have c1 : w1.cell? ⟨w.heap.size, 0, none⟩ = some (.int .i64 0) := (hb.cell (p := ⟨w.heap.size, 0, none⟩) (by simp)).trans C0.out
    have f1 : w1.frozen? ⟨w.heap.size, 0, none⟩ = false := (hb.frozen (p := ⟨w.heap.size, 0, none⟩) (by simp)).trans F0.out
    have HB1 : Hid (Below w.heap.size w w1) := HBL.out.trans (hb.mono HBL.out.size)
    clear hb
    refine leaves_cons (f := 84) (args := #[.pointer (some ⟨w.heap.size, 0, none⟩)]) (by simp) (by simp [go_sem]) ?_
    refine (catchRow_stop ⟨w.heap.size, 0, none⟩ 0 1 _ c1 f1).mono ?_
    rintro e u' w'' ⟨rfl, rfl, rfl⟩
    have c2 := World.cell?_setCell_same (v := .int .i64 1) (h := c1)
    have HB2 : Below w.heap.size w (w1.setCell ⟨w.heap.size, 0, none⟩ (.int .i64 1)) := HB1.out.setCell (by simp) _
    simp [Leaves, settle, results, Try.results48, go_sem, c2]
    exact ⟨rowAt_nil _, HB2⟩
  · obtain ⟨q, rfl⟩ : ∃ q : Nat, p = q := ⟨p.toNat, by omega⟩
    have hE : readR L q = match rdRow L q with | .error e => ([], 0, e) | .ok (n, q) => (n, q, 0) := if_neg hp
    have HS := Lib.hid (start_ok v L q _ hr2 (by omega))
    rw [hE]
    obtain ⟨r, hr⟩ : ∃ r, rdRow L q = r := ⟨_, rfl⟩
    rw [hr]
    have HM : Hid (∀ bd W, DecOk bd W.heap.size L q W → Calls Try.prog 85 #[.pointer (some ⟨bd, 0, none⟩)] W (DecPostR bd W.heap.size L r W)) := fun bd W h => by rw [← hr]; exact dRow_any bd _ L q W h hL
    clear hr2 hbl h c0 f0 hE hr hp
    go_enter_defers Try.func48, Try.ntmps48
    go_wp2_with fail
    refine HS.out.mono ?_
    rintro e w1 ⟨bd, rfl, hbd, hb, hok⟩
    have hbd' : w.heap.size < bd := by simp at hbd; omega
    have hlt := hok.lt
    have hwl : w.heap.size < w1.heap.size := by simp at hbd; omega
    have c1 : w1.cell? ⟨w.heap.size, 0, none⟩ = some (.int .i64 0) := (hb.cell (p := ⟨w.heap.size, 0, none⟩) (by simp)).trans C0.out
    have f1 : w1.frozen? ⟨w.heap.size, 0, none⟩ = false := (hb.frozen (p := ⟨w.heap.size, 0, none⟩) (by simp)).trans F0.out
    have HB1 : Hid (Below w.heap.size w w1) := HBL.out.trans (hb.mono HBL.out.size)
    have HR := Lib.hid (HM.out bd w1 hok)
    clear hb hok HM hbd
    go_wp2_with fail
    refine HR.out.mono ?_
    intro e w2 ⟨hm, hpost⟩
    have hbk := hm.block w.heap.size hwl (by omega)
    have c2 : w2.cell? ⟨w.heap.size, 0, none⟩ = some (.int .i64 0) := (World.cell?_of_block (w := w1) (a := ⟨w.heap.size, 0, none⟩) hbk).trans c1
    have f2 : w2.frozen? ⟨w.heap.size, 0, none⟩ = false := (World.frozen?_of_block (w := w1) (a := ⟨w.heap.size, 0, none⟩) hbk).trans f1
    have HB2 : Hid (Below w.heap.size w w2) := HB1.out.trans (hm.below (by omega) (by omega))
    clear hm hbk HR
    cases r with
    | error er =>
      obtain rfl : e = stop er := hpost
      refine leaves_cons (f := 84) (args := #[.pointer (some ⟨w.heap.size, 0, none⟩)]) (by simp) (by simp [go_sem]) ?_
      refine (catchRow_stop ⟨w.heap.size, 0, none⟩ 0 er _ c2 f2).mono ?_
      rintro e u' w'' ⟨rfl, rfl, rfl⟩
      have c3 := World.cell?_setCell_same (v := .int .i64 er) (h := c2)
      have HB3 : Below w.heap.size w (w2.setCell ⟨w.heap.size, 0, none⟩ (.int .i64 er)) := HB2.out.setCell (by simp) _
      simp [Leaves, settle, results, Try.results48, go_sem, c3]
      exact ⟨rowAt_nil _, HB3⟩
    | ok x =>
      obtain ⟨n, q2⟩ := x
      obtain ⟨rb, rfl, hrb1, hrb2, hn12, hcl, hok⟩ := hpost
      obtain ⟨_, _, _, _, _, _, _, c4, _, _⟩ := hok
      have hrow : ∀ W, (∀ i, W.cell? ⟨rb, i, none⟩ = w2.cell? ⟨rb, i, none⟩) → rb < W.heap.size → RowAt W (.slice (some ⟨rb, 0, none⟩) n.length n.length) n := fun W hW hs =>
        ⟨_, _, rfl, by omega, fun i hi => ⟨rb, 0, rfl, hs, (hW _).trans (hcl i hi).1, (hW _).trans (hcl i hi).2.1, (hW _).trans (hcl i hi).2.2⟩⟩
      have HROW := Lib.hid hrow
      clear hrow hcl
      go_wp2_with fail
      go_region
      have c5 : ((w2.setCell ⟨w.heap.size, 0, none⟩ (.int .i64 0)).drew).cell? ⟨w.heap.size, 0, none⟩ = some (.int .i64 0) := World.cell?_setCell_same (v := .int .i64 0) (h := c2)
      have f5 : ((w2.setCell ⟨w.heap.size, 0, none⟩ (.int .i64 0)).drew).frozen? ⟨w.heap.size, 0, none⟩ = false := by
        show (w2.setCell ⟨w.heap.size, 0, none⟩ (.int .i64 0)).frozen? ⟨w.heap.size, 0, none⟩ = false
        rw [World.frozen?_setCell]; exact f2
      have HB5 : Hid (Below w.heap.size w (w2.setCell ⟨w.heap.size, 0, none⟩ (.int .i64 0)).drew) := (HB2.out.setCell (by simp) _).drew
      have k5 : ∀ i, ((w2.setCell ⟨w.heap.size, 0, none⟩ (.int .i64 0)).drew).cell? ⟨rb, i, none⟩ = w2.cell? ⟨rb, i, none⟩ := fun i => World.cell?_setCell_other _ _ _ _ (by first | (simp; done) | (simp; omega))
      have s5 : rb < ((w2.setCell ⟨w.heap.size, 0, none⟩ (.int .i64 0)).drew).heap.size := by simpa using hrb2
      have K5 := Lib.hid k5
      clear k5
      generalize (w2.setCell ⟨w.heap.size, 0, none⟩ (.int .i64 0)).drew = w5 at c5 f5 HB5 K5 s5 ⊢
      go_wp2_with fail
      refine leaves_cons (f := 84) (args := #[.pointer (some ⟨w.heap.size, 0, none⟩)]) (by simp) (by simp [go_sem]) ?_
      refine (catchRow_idle ⟨w.heap.size, 0, none⟩ 0 _ c5 f5).mono ?_
      rintro e u' w'' ⟨rfl, rfl, rfl⟩
      have c6 := World.cell?_setCell_same (v := .int .i64 0) (h := c5)
      have HB6 : Below w.heap.size w (w5.setCell ⟨w.heap.size, 0, none⟩ (.int .i64 0)) := HB5.out.setCell (by simp) _
      have HR6 : RowAt (w5.setCell ⟨w.heap.size, 0, none⟩ (.int .i64 0)) (.slice (some ⟨rb, 0, none⟩) n.length n.length) n := HROW.out _ (fun i => (World.cell?_setCell_other _ _ _ _ (by first | (simp; done) | (simp; omega))).trans (K5.out i)) (by simpa using s5)
      simp [Leaves, settle, results, Try.results48, go_sem, c6]
      exact ⟨HR6, HB6⟩

/-- What is read as a value at a place: the value, the place behind it, the error code. -/
def readV (L : List UInt8) (p : Int) : V × Nat × Int := if p < 0 ∨ (L.length : Int) < p then (⟨0, 0, ⟨#[]⟩⟩, 0, 1) else match rdV L p.toNat with
  | .error e => (⟨0, 0, ⟨#[]⟩⟩, 0, e)
  | .ok (n, q) => (n, q, 0)

set_option maxRecDepth 100000 in
theorem eValue_any (v : Value) (L : List UInt8) (p : Int) (w : World) (h : Reads w v L) (hL : L.length ≤ 4398046511104) : Calls Try.prog 46 #[v, .int .i64 p] w fun e w' => e = .returned (.tuple #[.agg #[.int .i64 (readV L p).1.k, .int .i64 (readV L p).1.n, .string (readV L p).1.s], .int .i64 ((readV L p).2.1 : Int), .int .i64 (readV L p).2.2]) ∧ Below w.heap.size w w' := by
  have hmf : ∀ (fn : Fn) (first cap : Array Value) (w : World), (Instr.makeFunc fn first cap).run Try.prog w = .ok (.func fn first cap) w := fun _ _ _ _ => rfl
  have hbl : Below w.heap.size w ((w.alloc (.cells #[.int .i64 0, .int .i64 0, .string ⟨#[]⟩] 42)).alloc (.cells #[.int .i64 0] 44)) := ((Below.refl _ _).alloc (Nat.le_refl _) _).alloc (by simp) _
  have hr2 := h.below hbl
  have HBL := Lib.hid hbl
  have hsz : (w.alloc (.cells #[.int .i64 0, .int .i64 0, .string ⟨#[]⟩] 42)).heap.size = w.heap.size + 1 := by simp
  have c0 : ((w.alloc (.cells #[.int .i64 0, .int .i64 0, .string ⟨#[]⟩] 42)).alloc (.cells #[.int .i64 0] 44)).cell? ⟨w.heap.size + 1, 0, none⟩ = some (.int .i64 0) := by rw [← hsz]; exact World.cell?_alloc_mark _ #[.int .i64 0] 44 (0, 0) 0
  have f0 : ((w.alloc (.cells #[.int .i64 0, .int .i64 0, .string ⟨#[]⟩] 42)).alloc (.cells #[.int .i64 0] 44)).frozen? ⟨w.heap.size + 1, 0, none⟩ = false := by rw [← hsz, World.frozen?_alloc_mark]; simp
  have hpa := (Below.refl (w.heap.size + 1) (w.alloc (.cells #[.int .i64 0, .int .i64 0, .string ⟨#[]⟩] 42))).alloc (by simp) (.cells #[.int .i64 0] 44)
  have V0 : Hid (∀ i, ((w.alloc (.cells #[.int .i64 0, .int .i64 0, .string ⟨#[]⟩] 42)).alloc (.cells #[.int .i64 0] 44)).cell? ⟨w.heap.size, i, none⟩ = (#[.int .i64 0, .int .i64 0, .string ⟨#[]⟩] : Array Value)[i]?) := fun i => (hpa.cell (p := ⟨w.heap.size, i, none⟩) (Nat.lt_succ_self _)).trans (World.cell?_alloc_mark w _ _ _ i)
  have G0 : Hid (∀ i, ((w.alloc (.cells #[.int .i64 0, .int .i64 0, .string ⟨#[]⟩] 42)).alloc (.cells #[.int .i64 0] 44)).frozen? ⟨w.heap.size, i, none⟩ = false) := fun i => (hpa.frozen (p := ⟨w.heap.size, i, none⟩) (Nat.lt_succ_self _)).trans (by rw [World.frozen?_alloc_mark]; simp)
  have C0 := Lib.hid c0
  have F0 := Lib.hid f0
  by_cases hp : p < 0 ∨ (L.length : Int) < p
  · have hE : readV L p = (⟨0, 0, ⟨#[]⟩⟩, 0, 1) := if_pos hp
    rw [hE]
    have HS := Lib.hid (start_bad v L p _ hr2 hp)
    clear hr2 hbl h c0 f0 hpa hsz hE
    go_enter_defers Try.func46, Try.ntmps46
    go_wp2_with fail
    refine HS.out.mono ?_
    rintro e w1 ⟨rfl, hb⟩
    have v0 : w1.cell? ⟨w.heap.size, 0, none⟩ = some (.int .i64 0) := (hb.cell (p := ⟨w.heap.size, 0, none⟩) (by simp; omega)).trans (V0.out 0)
    have v1 : w1.cell? ⟨w.heap.size, 1, none⟩ = some (.int .i64 0) := (hb.cell (p := ⟨w.heap.size, 1, none⟩) (by simp; omega)).trans (V0.out 1)
    have v2 : w1.cell? ⟨w.heap.size, 2, none⟩ = some (.string ⟨#[]⟩) := (hb.cell (p := ⟨w.heap.size, 2, none⟩) (by simp; omega)).trans (V0.out 2)
    have c1 : w1.cell? ⟨w.heap.size + 1, 0, none⟩ = some (.int .i64 0) := (hb.cell (p := ⟨w.heap.size + 1, 0, none⟩) (by simp)).trans C0.out
    have g0 : w1.frozen? ⟨w.heap.size, 0, none⟩ = false := (hb.frozen (p := ⟨w.heap.size, 0, none⟩) (by simp; omega)).trans (G0.out 0)
    have g1 : w1.frozen? ⟨w.heap.size, 1, none⟩ = false := (hb.frozen (p := ⟨w.heap.size, 1, none⟩) (by simp; omega)).trans (G0.out 1)
    have g2 : w1.frozen? ⟨w.heap.size, 2, none⟩ = false := (hb.frozen (p := ⟨w.heap.size, 2, none⟩) (by simp; omega)).trans (G0.out 2)
    have f1 : w1.frozen? ⟨w.heap.size + 1, 0, none⟩ = false := (hb.frozen (p := ⟨w.heap.size + 1, 0, none⟩) (by simp)).trans F0.out
    have HB1 : Hid (Below w.heap.size w w1) := HBL.out.trans (hb.mono HBL.out.size)
    clear hb
    refine leaves_cons (f := 82) (args := #[.pointer (some ⟨w.heap.size + 1, 0, none⟩)]) (by simp) (by simp [go_sem]) ?_
    refine (catchValue_stop ⟨w.heap.size + 1, 0, none⟩ 0 1 _ c1 f1).mono ?_
    rintro e u' w'' ⟨rfl, rfl, rfl⟩
    have c2 := World.cell?_setCell_same (v := .int .i64 1) (h := c1)
    have HB2 : Below w.heap.size w (w1.setCell ⟨w.heap.size + 1, 0, none⟩ (.int .i64 1)) := HB1.out.setCell (by simp) _
    have z0 : (w1.setCell ⟨w.heap.size + 1, 0, none⟩ (.int .i64 1)).cell? ⟨w.heap.size, 0, none⟩ = some (.int .i64 0) := (World.cell?_setCell_other _ _ _ _ (by simp)).trans v0
    have z1 : (w1.setCell ⟨w.heap.size + 1, 0, none⟩ (.int .i64 1)).cell? ⟨w.heap.size, 1, none⟩ = some (.int .i64 0) := (World.cell?_setCell_other _ _ _ _ (by simp)).trans v1
    have z2 : (w1.setCell ⟨w.heap.size + 1, 0, none⟩ (.int .i64 1)).cell? ⟨w.heap.size, 2, none⟩ = some (.string ⟨#[]⟩) := (World.cell?_setCell_other _ _ _ _ (by simp)).trans v2
    simp [Leaves, settle, results, Try.results46, go_sem, c2, z0, z1, z2]
    exact HB2
  · obtain ⟨q, rfl⟩ : ∃ q : Nat, p = q := ⟨p.toNat, by omega⟩
    have hE : readV L q = match rdV L q with | .error e => (⟨0, 0, ⟨#[]⟩⟩, 0, e) | .ok (n, q) => (n, q, 0) := if_neg hp
    have HS := Lib.hid (start_ok v L q _ hr2 (by omega))
    rw [hE]
    obtain ⟨r, hr⟩ : ∃ r, rdV L q = r := ⟨_, rfl⟩
    rw [hr]
    have HM : Hid (∀ bd W, DecOk bd W.heap.size L q W → Calls Try.prog 83 #[.pointer (some ⟨bd, 0, none⟩)] W (DecPost bd W.heap.size L (retVal r) W)) := fun bd W h => by rw [← hr]; exact dValue_any bd _ L q W h hL
    clear hr2 hbl h c0 f0 hpa hsz hE hr hp
    go_enter_defers Try.func46, Try.ntmps46
    go_wp2_with fail
    refine HS.out.mono ?_
    rintro e w1 ⟨bd, rfl, hbd, hb, hok⟩
    have hbd' : w.heap.size + 1 < bd := by simp at hbd; omega
    have hlt := hok.lt
    have hwl : w.heap.size + 1 < w1.heap.size := by simp at hbd; omega
    have v0 : w1.cell? ⟨w.heap.size, 0, none⟩ = some (.int .i64 0) := (hb.cell (p := ⟨w.heap.size, 0, none⟩) (by simp; omega)).trans (V0.out 0)
    have v1 : w1.cell? ⟨w.heap.size, 1, none⟩ = some (.int .i64 0) := (hb.cell (p := ⟨w.heap.size, 1, none⟩) (by simp; omega)).trans (V0.out 1)
    have v2 : w1.cell? ⟨w.heap.size, 2, none⟩ = some (.string ⟨#[]⟩) := (hb.cell (p := ⟨w.heap.size, 2, none⟩) (by simp; omega)).trans (V0.out 2)
    have c1 : w1.cell? ⟨w.heap.size + 1, 0, none⟩ = some (.int .i64 0) := (hb.cell (p := ⟨w.heap.size + 1, 0, none⟩) (by simp)).trans C0.out
    have g0 : w1.frozen? ⟨w.heap.size, 0, none⟩ = false := (hb.frozen (p := ⟨w.heap.size, 0, none⟩) (by simp; omega)).trans (G0.out 0)
    have g1 : w1.frozen? ⟨w.heap.size, 1, none⟩ = false := (hb.frozen (p := ⟨w.heap.size, 1, none⟩) (by simp; omega)).trans (G0.out 1)
    have g2 : w1.frozen? ⟨w.heap.size, 2, none⟩ = false := (hb.frozen (p := ⟨w.heap.size, 2, none⟩) (by simp; omega)).trans (G0.out 2)
    have f1 : w1.frozen? ⟨w.heap.size + 1, 0, none⟩ = false := (hb.frozen (p := ⟨w.heap.size + 1, 0, none⟩) (by simp)).trans F0.out
    have HB1 : Hid (Below w.heap.size w w1) := HBL.out.trans (hb.mono HBL.out.size)
    have HR := Lib.hid (HM.out bd w1 hok)
    clear hb hok HM hbd
    go_wp2_with fail
    refine HR.out.mono ?_
    intro e w2 ⟨hm, hpost⟩
    have hbk := hm.block (w.heap.size + 1) hwl (by omega)
    have hbv := hm.block w.heap.size (by omega) (by omega)
    have x0 : w2.cell? ⟨w.heap.size, 0, none⟩ = some (.int .i64 0) := (World.cell?_of_block (w := w1) (a := ⟨w.heap.size, 0, none⟩) hbv).trans v0
    have x1 : w2.cell? ⟨w.heap.size, 1, none⟩ = some (.int .i64 0) := (World.cell?_of_block (w := w1) (a := ⟨w.heap.size, 1, none⟩) hbv).trans v1
    have x2 : w2.cell? ⟨w.heap.size, 2, none⟩ = some (.string ⟨#[]⟩) := (World.cell?_of_block (w := w1) (a := ⟨w.heap.size, 2, none⟩) hbv).trans v2
    have y0 : w2.frozen? ⟨w.heap.size, 0, none⟩ = false := (World.frozen?_of_block (w := w1) (a := ⟨w.heap.size, 0, none⟩) hbv).trans g0
    have y1 : w2.frozen? ⟨w.heap.size, 1, none⟩ = false := (World.frozen?_of_block (w := w1) (a := ⟨w.heap.size, 1, none⟩) hbv).trans g1
    have y2 : w2.frozen? ⟨w.heap.size, 2, none⟩ = false := (World.frozen?_of_block (w := w1) (a := ⟨w.heap.size, 2, none⟩) hbv).trans g2
    have c2 : w2.cell? ⟨w.heap.size + 1, 0, none⟩ = some (.int .i64 0) := (World.cell?_of_block (w := w1) (a := ⟨w.heap.size + 1, 0, none⟩) hbk).trans c1
    have f2 : w2.frozen? ⟨w.heap.size + 1, 0, none⟩ = false := (World.frozen?_of_block (w := w1) (a := ⟨w.heap.size + 1, 0, none⟩) hbk).trans f1
    have HB2 : Hid (Below w.heap.size w w2) := HB1.out.trans (hm.below (by omega) (by omega))
    clear hm hbk HR
    cases r with
    | error er =>
      obtain rfl : e = stop er := hpost
      refine leaves_cons (f := 82) (args := #[.pointer (some ⟨w.heap.size + 1, 0, none⟩)]) (by simp) (by simp [go_sem]) ?_
      refine (catchValue_stop ⟨w.heap.size + 1, 0, none⟩ 0 er _ c2 f2).mono ?_
      rintro e u' w'' ⟨rfl, rfl, rfl⟩
      have c3 := World.cell?_setCell_same (v := .int .i64 er) (h := c2)
      have HB3 : Below w.heap.size w (w2.setCell ⟨w.heap.size + 1, 0, none⟩ (.int .i64 er)) := HB2.out.setCell (by simp) _
      have z0 : (w2.setCell ⟨w.heap.size + 1, 0, none⟩ (.int .i64 er)).cell? ⟨w.heap.size, 0, none⟩ = some (.int .i64 0) := (World.cell?_setCell_other _ _ _ _ (by simp)).trans x0
      have z1 : (w2.setCell ⟨w.heap.size + 1, 0, none⟩ (.int .i64 er)).cell? ⟨w.heap.size, 1, none⟩ = some (.int .i64 0) := (World.cell?_setCell_other _ _ _ _ (by simp)).trans x1
      have z2 : (w2.setCell ⟨w.heap.size + 1, 0, none⟩ (.int .i64 er)).cell? ⟨w.heap.size, 2, none⟩ = some (.string ⟨#[]⟩) := (World.cell?_setCell_other _ _ _ _ (by simp)).trans x2
      simp [Leaves, settle, results, Try.results46, go_sem, c3, z0, z1, z2]
      exact HB3
    | ok x =>
      obtain ⟨n, q2⟩ := x
      obtain ⟨rfl, hok⟩ := hpost
      obtain ⟨_, _, _, _, _, _, _, c4, _, _⟩ := hok
      go_wp2_with fail
      go_region
      obtain ⟨a0, a1, a2⟩ := set3 (.int .i64 n.k) (.int .i64 n.n) (.string n.s) x0 x1 x2
      obtain ⟨b0, b1, b2⟩ := set3 (.int .i64 n.k) (.int .i64 n.n) (.string n.s) a0 a1 a2
      have hBB : Below w.heap.size w ((((((w2.setCell ⟨w.heap.size, 0, none⟩ (.int .i64 n.k)).setCell ⟨w.heap.size, 1, none⟩ (.int .i64 n.n)).setCell ⟨w.heap.size, 2, none⟩ (.string n.s)).setCell ⟨w.heap.size, 0, none⟩ (.int .i64 n.k)).setCell ⟨w.heap.size, 1, none⟩ (.int .i64 n.n)).setCell ⟨w.heap.size, 2, none⟩ (.string n.s)) := (((((HB2.out.setCell (by simp) _).setCell (by simp) _).setCell (by simp) _).setCell (by simp) _).setCell (by simp) _).setCell (by simp) _
      have hce : ((((((w2.setCell ⟨w.heap.size, 0, none⟩ (.int .i64 n.k)).setCell ⟨w.heap.size, 1, none⟩ (.int .i64 n.n)).setCell ⟨w.heap.size, 2, none⟩ (.string n.s)).setCell ⟨w.heap.size, 0, none⟩ (.int .i64 n.k)).setCell ⟨w.heap.size, 1, none⟩ (.int .i64 n.n)).setCell ⟨w.heap.size, 2, none⟩ (.string n.s)).cell? ⟨w.heap.size + 1, 0, none⟩ = some (.int .i64 0) := by
        rw [World.cell?_setCell_other _ _ _ _ (by simp), World.cell?_setCell_other _ _ _ _ (by simp), World.cell?_setCell_other _ _ _ _ (by simp), World.cell?_setCell_other _ _ _ _ (by simp), World.cell?_setCell_other _ _ _ _ (by simp), World.cell?_setCell_other _ _ _ _ (by simp)]
        exact c2
      have hfe : ((((((w2.setCell ⟨w.heap.size, 0, none⟩ (.int .i64 n.k)).setCell ⟨w.heap.size, 1, none⟩ (.int .i64 n.n)).setCell ⟨w.heap.size, 2, none⟩ (.string n.s)).setCell ⟨w.heap.size, 0, none⟩ (.int .i64 n.k)).setCell ⟨w.heap.size, 1, none⟩ (.int .i64 n.n)).setCell ⟨w.heap.size, 2, none⟩ (.string n.s)).frozen? ⟨w.heap.size + 1, 0, none⟩ = false := by
        simp only [World.frozen?_setCell]
        exact f2
      generalize ((((((w2.setCell ⟨w.heap.size, 0, none⟩ (.int .i64 n.k)).setCell ⟨w.heap.size, 1, none⟩ (.int .i64 n.n)).setCell ⟨w.heap.size, 2, none⟩ (.string n.s)).setCell ⟨w.heap.size, 0, none⟩ (.int .i64 n.k)).setCell ⟨w.heap.size, 1, none⟩ (.int .i64 n.n)).setCell ⟨w.heap.size, 2, none⟩ (.string n.s)) = w4 at b0 b1 b2 hBB hce hfe ⊢
      have c5 : ((w4.setCell ⟨w.heap.size + 1, 0, none⟩ (.int .i64 0)).drew).cell? ⟨w.heap.size + 1, 0, none⟩ = some (.int .i64 0) := World.cell?_setCell_same (v := .int .i64 0) (h := hce)
      have f5 : ((w4.setCell ⟨w.heap.size + 1, 0, none⟩ (.int .i64 0)).drew).frozen? ⟨w.heap.size + 1, 0, none⟩ = false := by
        show (w4.setCell ⟨w.heap.size + 1, 0, none⟩ (.int .i64 0)).frozen? ⟨w.heap.size + 1, 0, none⟩ = false
        rw [World.frozen?_setCell]; exact hfe
      have z0 : ((w4.setCell ⟨w.heap.size + 1, 0, none⟩ (.int .i64 0)).drew).cell? ⟨w.heap.size, 0, none⟩ = some (.int .i64 n.k) := (World.cell?_setCell_other _ _ _ _ (by simp)).trans b0
      have z1 : ((w4.setCell ⟨w.heap.size + 1, 0, none⟩ (.int .i64 0)).drew).cell? ⟨w.heap.size, 1, none⟩ = some (.int .i64 n.n) := (World.cell?_setCell_other _ _ _ _ (by simp)).trans b1
      have z2 : ((w4.setCell ⟨w.heap.size + 1, 0, none⟩ (.int .i64 0)).drew).cell? ⟨w.heap.size, 2, none⟩ = some (.string n.s) := (World.cell?_setCell_other _ _ _ _ (by simp)).trans b2
      have HB5 : Hid (Below w.heap.size w (w4.setCell ⟨w.heap.size + 1, 0, none⟩ (.int .i64 0)).drew) := (hBB.setCell (by simp) _).drew
      generalize (w4.setCell ⟨w.heap.size + 1, 0, none⟩ (.int .i64 0)).drew = w5 at c5 f5 z0 z1 z2 HB5 ⊢
      go_wp2_with fail
      refine leaves_cons (f := 82) (args := #[.pointer (some ⟨w.heap.size + 1, 0, none⟩)]) (by simp) (by simp [go_sem]) ?_
      refine (catchValue_idle ⟨w.heap.size + 1, 0, none⟩ 0 _ c5 f5).mono ?_
      rintro e u' w'' ⟨rfl, rfl, rfl⟩
      have c6 := World.cell?_setCell_same (v := .int .i64 0) (h := c5)
      have HB6 : Below w.heap.size w (w5.setCell ⟨w.heap.size + 1, 0, none⟩ (.int .i64 0)) := HB5.out.setCell (by simp) _
      have y0 : (w5.setCell ⟨w.heap.size + 1, 0, none⟩ (.int .i64 0)).cell? ⟨w.heap.size, 0, none⟩ = some (.int .i64 n.k) := (World.cell?_setCell_other _ _ _ _ (by simp)).trans z0
      have y1 : (w5.setCell ⟨w.heap.size + 1, 0, none⟩ (.int .i64 0)).cell? ⟨w.heap.size, 1, none⟩ = some (.int .i64 n.n) := (World.cell?_setCell_other _ _ _ _ (by simp)).trans z1
      have y2 : (w5.setCell ⟨w.heap.size + 1, 0, none⟩ (.int .i64 0)).cell? ⟨w.heap.size, 2, none⟩ = some (.string n.s) := (World.cell?_setCell_other _ _ _ _ (by simp)).trans z2
      simp [Leaves, settle, results, Try.results46, go_sem, c6, y0, y1, y2]
      exact HB6
end Go.Proofs.Ytkhbephcmcnfjaa
