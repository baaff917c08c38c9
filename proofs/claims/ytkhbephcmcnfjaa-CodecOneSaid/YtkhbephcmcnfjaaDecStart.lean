/- The decoder: its start, the recovered panic, the exported reader of a number. -/
import Derived.Test.YtkhbephcmcnfjaaDecUint
namespace Go.Proofs.Ytkhbephcmcnfjaa
open Go.RowKit Go.Deep

theorem spot_of {w : World} {a : Addr} {v : Value} (h : w.cell? a = some v) : a.spot = none ∧ a.block < w.heap.size := by
  refine ⟨?_, World.block_lt_of_cell? _ _ h⟩
  unfold World.cell? at h
  split at h
  · split at h
    · simp at h
    · rename_i hs
      cases hsp : a.spot with
      | none => rfl
      | some x => rw [hsp] at hs; simp at hs
  · simp at h
theorem add_at (a : Addr) (h : a.spot = none) (j : Nat) : a.add j = ⟨a.block, a.off + j, none⟩ := by
  obtain ⟨b, o, s⟩ := a
  simp only at h
  subst h
  unfold Addr.add
  split <;> simp_all

/-- The bytes, as cells. -/
theorem Reads.cells {w : World} {a : Option Addr} {n c : Nat} {L : List UInt8} (h : Reads w (.slice a n c) L) : n = L.length ∧ n ≤ c ∧ c ≤ maxLen ∧ ∀ j (h : j < L.length), ∃ b off, a = some ⟨b, off, none⟩ ∧ b < w.heap.size ∧ w.cell? ⟨b, off + j, none⟩ = some (.int .u8 (L[j].toNat : Int)) := by
  obtain ⟨a', c', e, h1, h2, h3, h4⟩ := h
  simp only [Value.slice.injEq] at e
  obtain ⟨rfl, rfl, rfl⟩ := e
  refine ⟨rfl, h1, h2, fun j hj => ?_⟩
  cases a with
  | none => have := h3 rfl; omega
  | some p =>
    have hc : ∀ i, i < L.length → w.cell? (p.add i) = some (.int .u8 (L[i]!.toNat : Int)) := fun i hi => h4 p rfl i _ (by simp [bts, hi])
    have h0 := hc 0 (by omega)
    have ha : p.add 0 = p := by unfold Addr.add; simp
    rw [ha] at h0
    obtain ⟨hs, hb⟩ := spot_of h0
    have hj2 := hc j hj
    rw [add_at p hs] at hj2
    exact ⟨p.block, p.off, by obtain ⟨b, o, s⟩ := p; simp only at hs; subst hs; rfl, hb, by rw [hj2]; simp [hj]⟩

def StartPost (L : List UInt8) (p : Nat) (w : World) (e : Ending) (w' : World) : Prop :=
  ∃ bd, e = .returned (.pointer (some ⟨bd, 0, none⟩)) ∧ w.heap.size ≤ bd ∧ Below w.heap.size w w' ∧ DecOk bd w'.heap.size L p w'

set_option maxRecDepth 100000 in
theorem start_ok (v : Value) (L : List UInt8) (p : Nat) (w : World) (h : Reads w v L) (hp : p ≤ L.length) : Calls Try.prog 75 #[v, .int .i64 p] w (StartPost L p w) := by
  obtain ⟨a, n, c, rfl⟩ := h.form
  obtain ⟨rfl, h1, h2, hc⟩ := h.cells
  have HC := Lib.hid hc
  have HR := Lib.hid (req_yes 1)
  have d1 : decide ((p : Int) ≥ 0) = true := decide_eq_true (by omega)
  have d2 : decide ((0 : Int) ≤ p) = true := decide_eq_true (by omega)
  have d3 : decide ((p : Int) ≤ L.length) = true := decide_eq_true (by omega)
  clear h hc
  go_enter Try.func75, Try.ntmps75
  go_wp2_with fail
  refine (HR.out _).mono ?_
  rintro e w1 ⟨rfl, rfl⟩
  go_wp2_with fail
  go_ret
  have hbl : Below w1.heap.size w1 (w1.alloc (.cells #[.slice a L.length c, .int .i64 p] 89)) := (Below.refl _ _).alloc (Nat.le_refl _) _
  refine ⟨w1.heap.size, rfl, Nat.le_refl _, hbl, a, c, ⟨by simp, Nat.le_refl _⟩, hp, h1, h2, ?_, ?_, ?_, fun j hj => ?_⟩
  · exact World.cell?_alloc_mark w1 _ _ _ 0
  · exact World.cell?_alloc_mark w1 _ _ _ 1
  · rw [World.frozen?_alloc_mark]; simp
  · obtain ⟨b, off, e, hb, hc⟩ := HC.out j hj
    exact ⟨b, off, e, by simp; omega, by omega, (hbl.cell (p := ⟨b, off + j, none⟩) hb).trans hc⟩

set_option maxRecDepth 100000 in
theorem start_bad (v : Value) (L : List UInt8) (p : Int) (w : World) (h : Reads w v L) (hp : p < 0 ∨ (L.length : Int) < p) : Calls Try.prog 75 #[v, .int .i64 p] w fun e w' => e = stop 1 ∧ Below w.heap.size w w' := by
  obtain ⟨a, n, c, rfl⟩ := h.form
  obtain ⟨rfl, h1, h2, hc⟩ := h.cells
  have HR := Lib.hid (req_no 1)
  clear h hc
  by_cases h0 : p < 0
  · have d1 : decide (p ≥ 0) = false := decide_eq_false (by omega)
    have d2 : decide ((0 : Int) ≤ p) = false := decide_eq_false (by omega)
    go_enter Try.func75, Try.ntmps75
    go_wp2_with fail
    refine (HR.out _).mono ?_
    rintro e w1 ⟨rfl, rfl⟩
    exact ⟨rfl, rfl, Below.refl _ _⟩
  · have d1 : decide (p ≥ 0) = true := decide_eq_true (by omega)
    have d2 : decide ((0 : Int) ≤ p) = true := decide_eq_true (by omega)
    have d3 : decide (p ≤ L.length) = false := decide_eq_false (by omega)
    go_enter Try.func75, Try.ntmps75
    go_wp2_with fail
    refine (HR.out _).mono ?_
    rintro e w1 ⟨rfl, rfl⟩
    exact ⟨rfl, rfl, Below.refl _ _⟩

set_option maxRecDepth 100000 in
theorem cause_stop (e : Int) (w : World) : Calls Try.prog 74 #[.iface 44 (.int .i64 e)] w fun en w' => en = .returned (.int .i64 e) ∧ w' = w := by
  have hta : ∀ (v : Value) (w : World), (Instr.typeAssert (.iface 44 v) 20 44 true).run Try.prog w = .ok (.tuple #[v, .bool true]) w := fun _ _ => by kernel_rfl
  go_enter Try.func74, Try.ntmps74
  go_wp2
  go_ret
  exact ⟨rfl, rfl⟩
set_option maxRecDepth 100000 in
theorem cause_none (w : World) : Calls Try.prog 74 #[.nilIface] w fun en w' => en = .returned (.int .i64 0) ∧ w' = w := by
  have hta : ∀ (w : World), (Instr.typeAssert .nilIface 20 44 true).run Try.prog w = .ok (.tuple #[.int .i64 0, .bool false]) w := fun _ => by kernel_rfl
  go_enter Try.func74, Try.ntmps74
  go_wp2
  go_ret
  exact ⟨rfl, rfl⟩

/-- The deferred function of Uint: of a frame that panics, and of one that returns. -/
theorem catchUint_stop (q : Addr) (x : Int) (e : Int) (w : World) (hc : w.cell? q = some (.int .i64 x)) (hz : w.frozen? q = false) :
    CallsD Try.prog 73 #[.pointer (some q)] (.panicking [{ v := .iface 44 (.int .i64 e), recovered := false }]) w fun en u' w' =>
      en = .returned (.tuple #[]) ∧ u' = .panicking [{ v := .iface 44 (.int .i64 e), recovered := true }] ∧ w' = w.setCell q (.int .i64 e) := by
  refine callsD_of_wpS Try.func73 rfl fun c₀ cs hu => ?_
  apply wpS_region
  simp [wpOpsS, go_sem, recoverD, hu, Try.ntmps73]
  refine (cause_stop e w).mono ?_
  rintro en w1 ⟨rfl, rfl⟩
  simp [go_sem, hc, hz, bodyPostS, results, Try.results73]
theorem catchUint_idle (q : Addr) (x : Int) (w : World) (hc : w.cell? q = some (.int .i64 x)) (hz : w.frozen? q = false) :
    CallsD Try.prog 73 #[.pointer (some q)] .returning w fun en u' w' => en = .returned (.tuple #[]) ∧ u' = .returning ∧ w' = w.setCell q (.int .i64 0) := by
  refine callsD_of_wpS Try.func73 rfl fun c₀ cs hu => ?_
  apply wpS_region
  simp [wpOpsS, go_sem, recoverD, hu, Try.ntmps73]
  refine (cause_none w).mono ?_
  rintro en w1 ⟨rfl, rfl⟩
  cases c₀
  simp_all [go_sem, bodyPostS, results, Try.results73]

/-- The deferred function of Int: of a frame that panics, and of one that returns. -/
theorem catchInt_stop (q : Addr) (x : Int) (e : Int) (w : World) (hc : w.cell? q = some (.int .i64 x)) (hz : w.frozen? q = false) :
    CallsD Try.prog 77 #[.pointer (some q)] (.panicking [{ v := .iface 44 (.int .i64 e), recovered := false }]) w fun en u' w' =>
      en = .returned (.tuple #[]) ∧ u' = .panicking [{ v := .iface 44 (.int .i64 e), recovered := true }] ∧ w' = w.setCell q (.int .i64 e) := by
  refine callsD_of_wpS Try.func77 rfl fun c₀ cs hu => ?_
  apply wpS_region
  simp [wpOpsS, go_sem, recoverD, hu, Try.ntmps77]
  refine (cause_stop e w).mono ?_
  rintro en w1 ⟨rfl, rfl⟩
  simp [go_sem, hc, hz, bodyPostS, results, Try.results77]
theorem catchInt_idle (q : Addr) (x : Int) (w : World) (hc : w.cell? q = some (.int .i64 x)) (hz : w.frozen? q = false) :
    CallsD Try.prog 77 #[.pointer (some q)] .returning w fun en u' w' => en = .returned (.tuple #[]) ∧ u' = .returning ∧ w' = w.setCell q (.int .i64 0) := by
  refine callsD_of_wpS Try.func77 rfl fun c₀ cs hu => ?_
  apply wpS_region
  simp [wpOpsS, go_sem, recoverD, hu, Try.ntmps77]
  refine (cause_none w).mono ?_
  rintro en w1 ⟨rfl, rfl⟩
  cases c₀
  simp_all [go_sem, bodyPostS, results, Try.results77]

/-- The deferred function of Text: of a frame that panics, and of one that returns. -/
theorem catchText_stop (q : Addr) (x : Int) (e : Int) (w : World) (hc : w.cell? q = some (.int .i64 x)) (hz : w.frozen? q = false) :
    CallsD Try.prog 79 #[.pointer (some q)] (.panicking [{ v := .iface 44 (.int .i64 e), recovered := false }]) w fun en u' w' =>
      en = .returned (.tuple #[]) ∧ u' = .panicking [{ v := .iface 44 (.int .i64 e), recovered := true }] ∧ w' = w.setCell q (.int .i64 e) := by
  refine callsD_of_wpS Try.func79 rfl fun c₀ cs hu => ?_
  apply wpS_region
  simp [wpOpsS, go_sem, recoverD, hu, Try.ntmps79]
  refine (cause_stop e w).mono ?_
  rintro en w1 ⟨rfl, rfl⟩
  simp [go_sem, hc, hz, bodyPostS, results, Try.results79]
theorem catchText_idle (q : Addr) (x : Int) (w : World) (hc : w.cell? q = some (.int .i64 x)) (hz : w.frozen? q = false) :
    CallsD Try.prog 79 #[.pointer (some q)] .returning w fun en u' w' => en = .returned (.tuple #[]) ∧ u' = .returning ∧ w' = w.setCell q (.int .i64 0) := by
  refine callsD_of_wpS Try.func79 rfl fun c₀ cs hu => ?_
  apply wpS_region
  simp [wpOpsS, go_sem, recoverD, hu, Try.ntmps79]
  refine (cause_none w).mono ?_
  rintro en w1 ⟨rfl, rfl⟩
  cases c₀
  simp_all [go_sem, bodyPostS, results, Try.results79]

/-- The deferred function of Value: of a frame that panics, and of one that returns. -/
theorem catchValue_stop (q : Addr) (x : Int) (e : Int) (w : World) (hc : w.cell? q = some (.int .i64 x)) (hz : w.frozen? q = false) :
    CallsD Try.prog 82 #[.pointer (some q)] (.panicking [{ v := .iface 44 (.int .i64 e), recovered := false }]) w fun en u' w' =>
      en = .returned (.tuple #[]) ∧ u' = .panicking [{ v := .iface 44 (.int .i64 e), recovered := true }] ∧ w' = w.setCell q (.int .i64 e) := by
  refine callsD_of_wpS Try.func82 rfl fun c₀ cs hu => ?_
  apply wpS_region
  simp [wpOpsS, go_sem, recoverD, hu, Try.ntmps82]
  refine (cause_stop e w).mono ?_
  rintro en w1 ⟨rfl, rfl⟩
  simp [go_sem, hc, hz, bodyPostS, results, Try.results82]
theorem catchValue_idle (q : Addr) (x : Int) (w : World) (hc : w.cell? q = some (.int .i64 x)) (hz : w.frozen? q = false) :
    CallsD Try.prog 82 #[.pointer (some q)] .returning w fun en u' w' => en = .returned (.tuple #[]) ∧ u' = .returning ∧ w' = w.setCell q (.int .i64 0) := by
  refine callsD_of_wpS Try.func82 rfl fun c₀ cs hu => ?_
  apply wpS_region
  simp [wpOpsS, go_sem, recoverD, hu, Try.ntmps82]
  refine (cause_none w).mono ?_
  rintro en w1 ⟨rfl, rfl⟩
  cases c₀
  simp_all [go_sem, bodyPostS, results, Try.results82]

/-- The deferred function of Row: of a frame that panics, and of one that returns. -/
theorem catchRow_stop (q : Addr) (x : Int) (e : Int) (w : World) (hc : w.cell? q = some (.int .i64 x)) (hz : w.frozen? q = false) :
    CallsD Try.prog 84 #[.pointer (some q)] (.panicking [{ v := .iface 44 (.int .i64 e), recovered := false }]) w fun en u' w' =>
      en = .returned (.tuple #[]) ∧ u' = .panicking [{ v := .iface 44 (.int .i64 e), recovered := true }] ∧ w' = w.setCell q (.int .i64 e) := by
  refine callsD_of_wpS Try.func84 rfl fun c₀ cs hu => ?_
  apply wpS_region
  simp [wpOpsS, go_sem, recoverD, hu, Try.ntmps84]
  refine (cause_stop e w).mono ?_
  rintro en w1 ⟨rfl, rfl⟩
  simp [go_sem, hc, hz, bodyPostS, results, Try.results84]
theorem catchRow_idle (q : Addr) (x : Int) (w : World) (hc : w.cell? q = some (.int .i64 x)) (hz : w.frozen? q = false) :
    CallsD Try.prog 84 #[.pointer (some q)] .returning w fun en u' w' => en = .returned (.tuple #[]) ∧ u' = .returning ∧ w' = w.setCell q (.int .i64 0) := by
  refine callsD_of_wpS Try.func84 rfl fun c₀ cs hu => ?_
  apply wpS_region
  simp [wpOpsS, go_sem, recoverD, hu, Try.ntmps84]
  refine (cause_none w).mono ?_
  rintro en w1 ⟨rfl, rfl⟩
  cases c₀
  simp_all [go_sem, bodyPostS, results, Try.results84]

/-- What is read as a number at a place: the number, the place behind it, the error code. -/
def readU (L : List UInt8) (p : Int) : Nat × Nat × Int := if p < 0 ∨ (L.length : Int) < p then (0, 0, 1) else match rdUint L p.toNat with
  | .error e => (0, 0, e)
  | .ok (n, q) => (n, q, 0)

set_option maxRecDepth 100000 in
theorem eUint_any (v : Value) (L : List UInt8) (p : Int) (w : World) (h : Reads w v L) : Calls Try.prog 40 #[v, .int .i64 p] w fun e w' => e = .returned (.tuple #[.int .u64 ((readU L p).1 : Int), .int .i64 ((readU L p).2.1 : Int), .int .i64 (readU L p).2.2]) ∧ Below w.heap.size w w' := by
  have hmf : ∀ (fn : Fn) (first cap : Array Value) (w : World), (Instr.makeFunc fn first cap).run Try.prog w = .ok (.func fn first cap) w := fun _ _ _ _ => rfl
  have hbl : Below w.heap.size w (w.alloc (.cells #[.int .i64 0] 44)) := (Below.refl _ _).alloc (Nat.le_refl _) _
  have hr2 := h.below hbl
  have HBL := Lib.hid hbl
  have c0 := World.cell?_alloc_mark w #[.int .i64 0] 44 (0, 0) 0
  have f0 : (w.alloc (.cells #[.int .i64 0] 44)).frozen? ⟨w.heap.size, 0, none⟩ = false := by rw [World.frozen?_alloc_mark]; simp
  have C0 := Lib.hid c0
  have F0 := Lib.hid f0
  by_cases hp : p < 0 ∨ (L.length : Int) < p
  · have hE : readU L p = (0, 0, 1) := if_pos hp
    rw [hE]
    have HS := Lib.hid (start_bad v L p _ hr2 hp)
    clear hr2 hbl h c0 f0 hE
    go_enter_defers Try.func40, Try.ntmps40
    go_wp2_with fail
    refine HS.out.mono ?_
    rintro e w1 ⟨rfl, hb⟩
    have c1 : w1.cell? ⟨w.heap.size, 0, none⟩ = some (.int .i64 0) := (hb.cell (p := ⟨w.heap.size, 0, none⟩) (by simp)).trans C0.out
    have f1 : w1.frozen? ⟨w.heap.size, 0, none⟩ = false := (hb.frozen (p := ⟨w.heap.size, 0, none⟩) (by simp)).trans F0.out
    have HB1 : Hid (Below w.heap.size w w1) := HBL.out.trans (hb.mono HBL.out.size)
    clear hb
    refine leaves_cons (f := 73) (args := #[.pointer (some ⟨w.heap.size, 0, none⟩)]) (by simp) (by simp [go_sem]) ?_
    refine (catchUint_stop ⟨w.heap.size, 0, none⟩ 0 1 _ c1 f1).mono ?_
    rintro e u' w'' ⟨rfl, rfl, rfl⟩
    have c2 := World.cell?_setCell_same (v := .int .i64 1) (h := c1)
    have HB2 : Below w.heap.size w (w1.setCell ⟨w.heap.size, 0, none⟩ (.int .i64 1)) := HB1.out.setCell (by simp) _
    simp [Leaves, settle, results, Try.results40, go_sem, c2]
    exact HB2
  · obtain ⟨q, rfl⟩ : ∃ q : Nat, p = q := ⟨p.toNat, by omega⟩
    have hE : readU L q = match rdUint L q with | .error e => (0, 0, e) | .ok (n, q) => (n, q, 0) := if_neg hp
    have HS := Lib.hid (start_ok v L q _ hr2 (by omega))
    rw [hE]
    obtain ⟨r, hr⟩ : ∃ r, rdUint L q = r := ⟨_, rfl⟩
    rw [hr]
    have HM : Hid (∀ bd W, DecOk bd W.heap.size L q W → Calls Try.prog 76 #[.pointer (some ⟨bd, 0, none⟩)] W (DecPost bd W.heap.size L (retU r) W)) := fun bd W h => by rw [← hr]; exact dUint_any bd _ L q W h
    clear hr2 hbl h c0 f0 hE hr hp
    go_enter_defers Try.func40, Try.ntmps40
    go_wp2_with fail
    refine HS.out.mono ?_
    rintro e w1 ⟨bd, rfl, hbd, hb, hok⟩
    have hbd' : w.heap.size < bd := by simp at hbd; omega
    have hlt := hok.lt
    have hwl : w.heap.size < w1.heap.size := by simp at hbd; omega
    have c1 : w1.cell? ⟨w.heap.size, 0, none⟩ = some (.int .i64 0) := (hb.cell (p := ⟨w.heap.size, 0, none⟩) (by simp)).trans C0.out
    have f1 : w1.frozen? ⟨w.heap.size, 0, none⟩ = false := (hb.frozen (p := ⟨w.heap.size, 0, none⟩) (by simp)).trans F0.out
    have HB1 : Hid (Below w.heap.size w w1) := HBL.out.trans (hb.mono HBL.out.size)
    have HR := Lib.hid (HM.out bd w1 hok)
    clear hb hok HM hbd
    go_wp2_with fail
    refine HR.out.mono ?_
    intro e w2 ⟨hm, hpost⟩
    have hbk := hm.block w.heap.size hwl (by omega)
    have c2 : w2.cell? ⟨w.heap.size, 0, none⟩ = some (.int .i64 0) := (World.cell?_of_block (w := w1) (a := ⟨w.heap.size, 0, none⟩) hbk).trans c1
    have f2 : w2.frozen? ⟨w.heap.size, 0, none⟩ = false := (World.frozen?_of_block (w := w1) (a := ⟨w.heap.size, 0, none⟩) hbk).trans f1
    have HB2 : Hid (Below w.heap.size w w2) := HB1.out.trans (hm.below (by omega) (by omega))
    clear hm hbk HR
    cases r with
    | error er =>
      obtain rfl : e = stop er := hpost
      refine leaves_cons (f := 73) (args := #[.pointer (some ⟨w.heap.size, 0, none⟩)]) (by simp) (by simp [go_sem]) ?_
      refine (catchUint_stop ⟨w.heap.size, 0, none⟩ 0 er _ c2 f2).mono ?_
      rintro e u' w'' ⟨rfl, rfl, rfl⟩
      have c3 := World.cell?_setCell_same (v := .int .i64 er) (h := c2)
      have HB3 : Below w.heap.size w (w2.setCell ⟨w.heap.size, 0, none⟩ (.int .i64 er)) := HB2.out.setCell (by simp) _
      simp [Leaves, settle, results, Try.results40, go_sem, c3]
      exact HB3
    | ok x =>
      obtain ⟨n, q2⟩ := x
      obtain ⟨rfl, hok⟩ := hpost
      obtain ⟨_, _, _, _, _, _, _, c4, _, _⟩ := hok
      go_wp2_with fail
      go_region
      have c5 : ((w2.setCell ⟨w.heap.size, 0, none⟩ (.int .i64 0)).drew).cell? ⟨w.heap.size, 0, none⟩ = some (.int .i64 0) := World.cell?_setCell_same (v := .int .i64 0) (h := c2)
      have f5 : ((w2.setCell ⟨w.heap.size, 0, none⟩ (.int .i64 0)).drew).frozen? ⟨w.heap.size, 0, none⟩ = false := by
        show (w2.setCell ⟨w.heap.size, 0, none⟩ (.int .i64 0)).frozen? ⟨w.heap.size, 0, none⟩ = false
        rw [World.frozen?_setCell]; exact f2
      have HB5 : Hid (Below w.heap.size w (w2.setCell ⟨w.heap.size, 0, none⟩ (.int .i64 0)).drew) := (HB2.out.setCell (by simp) _).drew
      generalize (w2.setCell ⟨w.heap.size, 0, none⟩ (.int .i64 0)).drew = w5 at c5 f5 HB5 ⊢
      go_wp2_with fail
      refine leaves_cons (f := 73) (args := #[.pointer (some ⟨w.heap.size, 0, none⟩)]) (by simp) (by simp [go_sem]) ?_
      refine (catchUint_idle ⟨w.heap.size, 0, none⟩ 0 _ c5 f5).mono ?_
      rintro e u' w'' ⟨rfl, rfl, rfl⟩
      have c6 := World.cell?_setCell_same (v := .int .i64 0) (h := c5)
      have HB6 : Below w.heap.size w (w5.setCell ⟨w.heap.size, 0, none⟩ (.int .i64 0)) := HB5.out.setCell (by simp) _
      simp [Leaves, settle, results, Try.results40, go_sem, c6]
      exact HB6
end Go.Proofs.Ytkhbephcmcnfjaa
