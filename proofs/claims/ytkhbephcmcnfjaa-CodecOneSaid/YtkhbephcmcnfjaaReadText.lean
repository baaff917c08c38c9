/- The exported reader of a text. -/
import Derived.Test.YtkhbephcmcnfjaaDecText
namespace Go.Proofs.Ytkhbephcmcnfjaa
open Go.RowKit Go.Deep

/-- What is read as a text at a place: the text, the place behind it, the error code. -/
def readT (L : List UInt8) (p most : Int) : List UInt8 × Nat × Int := if p < 0 ∨ (L.length : Int) < p ∨ most < 0 then ([], 0, 1) else match rdText L p.toNat most.toNat with
  | .error e => ([], 0, e)
  | .ok (n, q) => (n, q, 0)

set_option maxRecDepth 100000 in
theorem eText_any (v : Value) (L : List UInt8) (p most : Int) (w : World) (h : Reads w v L) (hL : L.length ≤ 4398046511104) (hm1 : most ≤ 9223372036854775807) : Calls Try.prog 44 #[v, .int .i64 p, .int .i64 most] w fun e w' => e = .returned (.tuple #[.string ⟨(readT L p most).1.toArray⟩, .int .i64 ((readT L p most).2.1 : Int), .int .i64 (readT L p most).2.2]) ∧ Below w.heap.size w w' := by
  have hmf : ∀ (fn : Fn) (first cap : Array Value) (w : World), (Instr.makeFunc fn first cap).run Try.prog w = .ok (.func fn first cap) w := fun _ _ _ _ => rfl
  have hbl : Below w.heap.size w (w.alloc (.cells #[.int .i64 0] 44)) := (Below.refl _ _).alloc (Nat.le_refl _) _
  have hr2 := h.below hbl
  have HBL := Lib.hid hbl
  have c0 := World.cell?_alloc_mark w #[.int .i64 0] 44 (0, 0) 0
  have f0 : (w.alloc (.cells #[.int .i64 0] 44)).frozen? ⟨w.heap.size, 0, none⟩ = false := by rw [World.frozen?_alloc_mark]; simp
  have C0 := Lib.hid c0
  have F0 := Lib.hid f0
  by_cases hp : p < 0 ∨ (L.length : Int) < p
  · have hE : readT L p most = ([], 0, 1) := if_pos (by rcases hp with h | h; exact .inl h; exact .inr (.inl h))
    rw [hE]
    have HS := Lib.hid (start_bad v L p _ hr2 hp)
    clear hr2 hbl h c0 f0 hE
    go_enter_defers Try.func44, Try.ntmps44
    go_wp2_with fail
    refine HS.out.mono ?_
    rintro e w1 ⟨rfl, hb⟩
    have c1 : w1.cell? ⟨w.heap.size, 0, none⟩ = some (.int .i64 0) := (hb.cell (p := ⟨w.heap.size, 0, none⟩) (by simp)).trans C0.out
    have f1 : w1.frozen? ⟨w.heap.size, 0, none⟩ = false := (hb.frozen (p := ⟨w.heap.size, 0, none⟩) (by simp)).trans F0.out
    have HB1 : Hid (Below w.heap.size w w1) := HBL.out.trans (hb.mono HBL.out.size)
    clear hb
    refine leaves_cons (f := 79) (args := #[.pointer (some ⟨w.heap.size, 0, none⟩)]) (by simp) (by simp [go_sem]) ?_
    refine (catchText_stop ⟨w.heap.size, 0, none⟩ 0 1 _ c1 f1).mono ?_
    rintro e u' w'' ⟨rfl, rfl, rfl⟩
    have c2 := World.cell?_setCell_same (v := .int .i64 1) (h := c1)
    have HB2 : Below w.heap.size w (w1.setCell ⟨w.heap.size, 0, none⟩ (.int .i64 1)) := HB1.out.setCell (by simp) _
    simp [Leaves, settle, results, Try.results44, go_sem, c2]
    exact HB2
  · obtain ⟨q, rfl⟩ : ∃ q : Nat, p = q := ⟨p.toNat, by omega⟩
    have HS := Lib.hid (start_ok v L q _ hr2 (by omega))
    by_cases hmost : most < 0
    · have hE : readT L q most = ([], 0, 1) := if_pos (.inr (.inr hmost))
      rw [hE]
      have d1 : decide (most ≥ 0) = false := decide_eq_false (by omega)
      have d2 : decide ((0 : Int) ≤ most) = false := decide_eq_false (by omega)
      have HQ := Lib.hid (req_no 1)
      clear hr2 hbl h c0 f0 hE hp
      go_enter_defers Try.func44, Try.ntmps44
      go_wp2_with fail
      refine HS.out.mono ?_
      rintro e w1 ⟨bd, rfl, hbd, hb, hok⟩
      have hbd' : w.heap.size < bd := by simp at hbd; omega
      have hlt := hok.lt
      have hwl : w.heap.size < w1.heap.size := by simp at hbd; omega
      have c1 : w1.cell? ⟨w.heap.size, 0, none⟩ = some (.int .i64 0) := (hb.cell (p := ⟨w.heap.size, 0, none⟩) (by simp)).trans C0.out
      have f1 : w1.frozen? ⟨w.heap.size, 0, none⟩ = false := (hb.frozen (p := ⟨w.heap.size, 0, none⟩) (by simp)).trans F0.out
      have HB1 : Hid (Below w.heap.size w w1) := HBL.out.trans (hb.mono HBL.out.size)
      clear hb hok hbd
      go_wp2_with fail
      refine (HQ.out _).mono ?_
      rintro e w2 ⟨rfl, rfl⟩
      refine leaves_cons (f := 79) (args := #[.pointer (some ⟨w.heap.size, 0, none⟩)]) (by simp) (by simp [go_sem]) ?_
      refine (catchText_stop ⟨w.heap.size, 0, none⟩ 0 1 _ c1 f1).mono ?_
      rintro e u' w'' ⟨rfl, rfl, rfl⟩
      have c3 := World.cell?_setCell_same (v := .int .i64 1) (h := c1)
      have HB3 : Below w.heap.size w (w2.setCell ⟨w.heap.size, 0, none⟩ (.int .i64 1)) := HB1.out.setCell (by simp) _
      simp [Leaves, settle, results, Try.results44, go_sem, c3]
      exact HB3
    obtain ⟨most, rfl⟩ : ∃ m : Nat, most = m := ⟨most.toNat, by omega⟩
    have d1 : decide ((most : Int) ≥ 0) = true := decide_eq_true (by omega)
    have d2 : decide ((0 : Int) ≤ most) = true := decide_eq_true (by omega)
    have HQ := Lib.hid (req_yes 1)
    have hE : readT L q most = match rdText L q most with | .error e => ([], 0, e) | .ok (n, q) => (n, q, 0) := if_neg (by omega)
    rw [hE]
    obtain ⟨r, hr⟩ : ∃ r, rdText L q most = r := ⟨_, rfl⟩
    rw [hr]
    have HM : Hid (∀ bd W, DecOk bd W.heap.size L q W → Calls Try.prog 81 #[.pointer (some ⟨bd, 0, none⟩), .int .i64 most] W (DecPost bd W.heap.size L (retT r) W)) := fun bd W h => by rw [← hr]; exact dText_any bd _ L q most W h (by omega) hL
    clear hr2 hbl h c0 f0 hE hr hp hmost
    go_enter_defers Try.func44, Try.ntmps44
    go_wp2_with fail
    refine HS.out.mono ?_
    rintro e w1 ⟨bd, rfl, hbd, hb, hok⟩
    have hbd' : w.heap.size < bd := by simp at hbd; omega
    have hlt := hok.lt
    have hwl : w.heap.size < w1.heap.size := by simp at hbd; omega
    have c1 : w1.cell? ⟨w.heap.size, 0, none⟩ = some (.int .i64 0) := (hb.cell (p := ⟨w.heap.size, 0, none⟩) (by simp)).trans C0.out
    have f1 : w1.frozen? ⟨w.heap.size, 0, none⟩ = false := (hb.frozen (p := ⟨w.heap.size, 0, none⟩) (by simp)).trans F0.out
    have HB1 : Hid (Below w.heap.size w w1) := HBL.out.trans (hb.mono HBL.out.size)
    have HR := Lib.hid (HM.out bd w1 hok)
    clear hb hok HM hbd
    go_wp2_with fail
    refine (HQ.out _).mono ?_
    rintro e w8 ⟨rfl, e8⟩
    subst w8
    go_wp2_with fail
    refine HR.out.mono ?_
    intro e w2 ⟨hm, hpost⟩
    have hbk := hm.block w.heap.size hwl (by omega)
    have c2 : w2.cell? ⟨w.heap.size, 0, none⟩ = some (.int .i64 0) := (World.cell?_of_block (w := w1) (a := ⟨w.heap.size, 0, none⟩) hbk).trans c1
    have f2 : w2.frozen? ⟨w.heap.size, 0, none⟩ = false := (World.frozen?_of_block (w := w1) (a := ⟨w.heap.size, 0, none⟩) hbk).trans f1
    have HB2 : Hid (Below w.heap.size w w2) := HB1.out.trans (hm.below (by omega) (by omega))
    clear hm hbk HR
    cases r with
    | error er =>
      obtain rfl : e = stop er := hpost
      refine leaves_cons (f := 79) (args := #[.pointer (some ⟨w.heap.size, 0, none⟩)]) (by simp) (by simp [go_sem]) ?_
      refine (catchText_stop ⟨w.heap.size, 0, none⟩ 0 er _ c2 f2).mono ?_
      rintro e u' w'' ⟨rfl, rfl, rfl⟩
      have c3 := World.cell?_setCell_same (v := .int .i64 er) (h := c2)
      have HB3 : Below w.heap.size w (w2.setCell ⟨w.heap.size, 0, none⟩ (.int .i64 er)) := HB2.out.setCell (by simp) _
      simp [Leaves, settle, results, Try.results44, go_sem, c3]
      exact HB3
    | ok x =>
      obtain ⟨n, q2⟩ := x
      obtain ⟨rfl, hok⟩ := hpost
      obtain ⟨_, _, _, _, _, _, _, c4, _, _⟩ := hok
      go_wp2_with fail
      go_region
      have c5 : ((w2.setCell ⟨w.heap.size, 0, none⟩ (.int .i64 0)).drew).cell? ⟨w.heap.size, 0, none⟩ = some (.int .i64 0) := World.cell?_setCell_same (v := .int .i64 0) (h := c2)
      have f5 : ((w2.setCell ⟨w.heap.size, 0, none⟩ (.int .i64 0)).drew).frozen? ⟨w.heap.size, 0, none⟩ = false := by
        show (w2.setCell ⟨w.heap.size, 0, none⟩ (.int .i64 0)).frozen? ⟨w.heap.size, 0, none⟩ = false
        rw [World.frozen?_setCell]; exact f2
      have HB5 : Hid (Below w.heap.size w (w2.setCell ⟨w.heap.size, 0, none⟩ (.int .i64 0)).drew) := (HB2.out.setCell (by simp) _).drew
      generalize (w2.setCell ⟨w.heap.size, 0, none⟩ (.int .i64 0)).drew = w5 at c5 f5 HB5 ⊢
      go_wp2_with fail
      refine leaves_cons (f := 79) (args := #[.pointer (some ⟨w.heap.size, 0, none⟩)]) (by simp) (by simp [go_sem]) ?_
      refine (catchText_idle ⟨w.heap.size, 0, none⟩ 0 _ c5 f5).mono ?_
      rintro e u' w'' ⟨rfl, rfl, rfl⟩
      have c6 := World.cell?_setCell_same (v := .int .i64 0) (h := c5)
      have HB6 : Below w.heap.size w (w5.setCell ⟨w.heap.size, 0, none⟩ (.int .i64 0)) := HB5.out.setCell (by simp) _
      simp [Leaves, settle, results, Try.results44, go_sem, c6]
      exact HB6
end Go.Proofs.Ytkhbephcmcnfjaa
