/- The decoder: its state, its smallest methods. -/
import Derived.Test.YtkhbephcmcnfjaaPutText
import Derived.Recover
import Derived.StillTailTactics
import Derived.Defers
import Derived.Deep.RegionHeld3
import Derived.Deep.LoopGhost
import Derived.Outline
namespace Go.Proofs.Ytkhbephcmcnfjaa
open Go.RowKit Go.Deep

/-- The panic with an error code. -/
def stop (e : Int) : Ending := .panicked [{ v := .iface 44 (.int .i64 e), recovered := false }]

/-- Block bd is a decoder over the bytes L, at the place p; the bytes lie below B. -/
def DecOk (bd B : Nat) (L : List UInt8) (p : Nat) (w : World) : Prop :=
  ∃ (a : Option Addr) (c : Nat), (bd < B ∧ B ≤ w.heap.size) ∧ p ≤ L.length ∧ L.length ≤ c ∧ c ≤ maxLen ∧ w.cell? ⟨bd, 0, none⟩ = some (.slice a L.length c) ∧ w.cell? ⟨bd, 1, none⟩ = some (.int .i64 p) ∧ w.frozen? ⟨bd, 1, none⟩ = false ∧
    ∀ j (h : j < L.length), ∃ b off, a = some ⟨b, off, none⟩ ∧ b < B ∧ b ≠ bd ∧ w.cell? ⟨b, off + j, none⟩ = some (.int .u8 (L[j].toNat : Int))

theorem DecOk.below {bd B B' p : Nat} {L : List UInt8} {w w' : World} (h : DecOk bd B L p w) (hb : Below B' w w') (hB : B ≤ B') : DecOk bd B L p w' := by
  obtain ⟨a, c, ⟨h0, h00⟩, h1, h2, h3, h4, h5, h6, h7⟩ := h
  have hs := hb.size
  refine ⟨a, c, ⟨h0, by omega⟩, h1, h2, h3, (hb.cell (p := ⟨bd, 0, none⟩) (show bd < B' by omega)).trans h4, (hb.cell (p := ⟨bd, 1, none⟩) (show bd < B' by omega)).trans h5, (hb.frozen (p := ⟨bd, 1, none⟩) (show bd < B' by omega)).trans h6, fun j hj => ?_⟩
  obtain ⟨b, off, e, hb', hn, hc⟩ := h7 j hj
  exact ⟨b, off, e, hb', hn, (hb.cell (p := ⟨b, off + j, none⟩) (show b < B' by omega)).trans hc⟩
theorem DecOk.lt {bd B p : Nat} {L : List UInt8} {w : World} (h : DecOk bd B L p w) : bd < B ∧ B ≤ w.heap.size := by
  obtain ⟨a, c, h0, _⟩ := h
  exact h0

theorem DecOk.move {bd B p q : Nat} {L : List UInt8} {w : World} (h : DecOk bd B L p w) (n : Nat) (hq : q ≤ L.length) : DecOk bd B L q ((w.drewN n).setCell ⟨bd, 1, none⟩ (.int .i64 (q : Int))) := by
  obtain ⟨a, c, ⟨h0, h00⟩, h1, h2, h3, h4, h5, h6, h7⟩ := h
  refine ⟨a, c, ⟨h0, by simp; omega⟩, hq, h2, h3, ?_, ?_, ?_, fun j hj => ?_⟩
  · rw [World.cell?_setCell_other _ _ _ _ (by simp)]; exact h4
  · exact World.cell?_setCell_same _ _ _ (show (w.drewN n).cell? ⟨bd, 1, none⟩ = _ from h5)
  · rw [World.frozen?_setCell]; exact h6
  · obtain ⟨b, off, e, hb, hn, hc⟩ := h7 j hj
    refine ⟨b, off, e, hb, hn, ?_⟩
    rw [World.cell?_setCell_other _ _ _ _ (by first | (simp; done) | (simp; intro e; exact absurd e.symm hn))]
    exact hc

set_option maxRecDepth 100000 in
theorem req_yes (e : Int) (w : World) : Calls Try.prog 80 #[.bool true, .int .i64 e] w fun en w' => en = .returned (.tuple #[]) ∧ w' = w := by
  go_enter Try.func80, Try.ntmps80
  go_wp2
  refine ⟨rfl, .tuple #[], ?_, rfl, rfl⟩
  simp [results, Try.results80, go_sem]
set_option maxRecDepth 100000 in
theorem req_no (e : Int) (w : World) : Calls Try.prog 80 #[.bool false, .int .i64 e] w fun en w' => en = stop e ∧ w' = w := by
  go_enter Try.func80, Try.ntmps80
  go_wp2
  exact ⟨rfl, rfl, rfl⟩

/-- What a method of the decoder does: it returns, and has moved the place, or it stops. -/
def DecPost (bd B : Nat) (L : List UInt8) (r : Except Int (Value × Nat)) (w : World) (e : Ending) (w' : World) : Prop :=
  Mv bd w w' ∧ match r with
    | .error n => e = stop n
    | .ok (v, p) => e = .returned v ∧ DecOk bd B L p w'

set_option maxRecDepth 100000 in
theorem dByte_any (bd B : Nat) (L : List UInt8) (p : Nat) (w : World) (h : DecOk bd B L p w) :
    Calls Try.prog 96 #[.pointer (some ⟨bd, 0, none⟩)] w (DecPost bd B L (match L[p]? with | none => .error 20 | some b => .ok (.int .u8 (b.toNat : Int), p + 1)) w) := by
  have HOK := Lib.hid h
  obtain ⟨a, c, ⟨h0, h00⟩, h1, h2, h3, h4, h5, h6, h7⟩ := h
  by_cases hp : p < L.length
  · rw [List.getElem?_eq_getElem hp]
    obtain ⟨b, off, rfl, hb, hn, hc⟩ := h7 p hp
    have HR := Lib.hid (req_yes 20)
    clear h7
    have hpi : (p : Int) < L.length := by omega
    have hp0 : (0 : Int) ≤ p := by omega
    go_enter Try.func96, Try.ntmps96
    go_wp2_with fail
    go_still_tail 10, (by kernel_rfl)
    change wpList _ _ _ _ _ w.drew
    go_wp2_with fail
    refine (HR.out _).mono ?_
    rintro e w1 ⟨rfl, rfl⟩
    go_wp2_with fail
    go_quiet (fail)
    rename_i nq
    go_wp2_with fail
    go_ret
    have e1 : wrap64 ((p : Int) + 1) = ((p + 1 : Nat) : Int) := by unfold maxLen at h3; unfold wrap64; omega
    rw [e1]
    exact ⟨((Mv.refl _ _).drewN _).setCell _ _, rfl, HOK.out.move _ (by omega)⟩
  · rw [List.getElem?_eq_none (by omega)]
    have HR := Lib.hid (req_no 20)
    have hpi : decide ((p : Int) < L.length) = false := decide_eq_false (by omega)
    clear h7
    go_enter Try.func96, Try.ntmps96
    go_wp2_with fail
    go_still_tail 10, (by kernel_rfl)
    change wpList _ _ _ _ _ w.drew
    go_wp2_with fail
    refine (HR.out _).mono ?_
    rintro e w1 ⟨rfl, rfl⟩
    exact ⟨rfl, (Mv.refl _ _).drewN 1, rfl⟩
end Go.Proofs.Ytkhbephcmcnfjaa
