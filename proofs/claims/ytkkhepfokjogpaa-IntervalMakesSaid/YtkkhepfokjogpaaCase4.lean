
/- Walk of partsynccase.New. -/
import Derived.Test.YtkkhepfokjogpaaCase3

import Derived.Laws.AppendOwnNone

namespace Go.Proofs.Ytkkhepfokjogpaa

open Go.RowKit

/-- 'append(nil, src...)': a new row of the call's own. -/
theorem wpList_append_nil {P : Program} {w : World} {ops : Array Oper} {rest : List Oper} {o : Oper} {a : Act} {Q : Exit → Act → World → Prop} (hgd : o.guard = none) (s x : Operand) (t : TypeId)
    (ho : o.op = .call { callee := .builtin .append, args := #[s, x], argTypes := #[t, t] })
    (e : TypeId) (i : TypeInfo) (z : Value) (size bytes : Nat) (ht : P.underlying t = some (.slice e)) (hi : P.info? e = some i) (hz : i.zero = some z)
    (hsize : i.size = size) (hby : i.bytes = bytes) (hzs : z.cells.size = size) (hsz : 0 < size)
    (hs : a.eval s = .slice none 0 0) (ad : Option Addr) (m c : Nat) (news : List Value) (hx : a.eval x = .slice ad m c) (hnil : ad = none → m = 0 ∧ c = 0) (hl : news.length = m * size)
    (hnews : ∀ p, ad = some p → ∀ j u, news[j]? = some u → w.cell? (p.add j) = some u) (h1 : ∀ u ∈ news, u.oneCell' = true)
    (h63 : m ≤ maxLen) (hbytes : m * bytes ≤ 140737488355328)
    (h : ∀ v' w', w'.ownsRow w.heap.size e size v' m news → Below w.heap.size w w' → wpList P ops Q rest (a.put o.dst v') w') : wpList P ops Q (o :: rest) a w := by
  have hown0 : w.ownsRow w.heap.size e size (.slice none 0 0) 0 [] := ⟨by simp, .inl ⟨rfl, rfl⟩⟩
  cases ad with
  | none =>
    obtain ⟨rfl, rfl⟩ := hnil rfl
    have hn : news = [] := List.eq_nil_of_length_eq_zero (by simpa using hl)
    subst hn
    exact wpList_append_own_none hgd s x t ho w.heap.size e i size ht hi (.slice none 0 0) 0 [] hs hown0 hx (h _ _ hown0 (Below.refl _ _))
  | some p =>
    refine wpList_append_own w hgd s x t ho w.heap.size e i z size bytes ht hi hz hsize hby hzs hsz (.slice none 0 0) 0 [] hs hown0 p m c news hx hl (hnews p rfl) h1 (by omega) (by rw [Nat.zero_add]; exact hbytes) (Nat.le_refl _) ?_
    intro v' w' ho' hg _
    rw [Nat.zero_add, List.nil_append] at ho'
    exact h v' w' ho' ((Below.refl _ _).grown hg (Nat.le_refl _) (fun k hk => by simp [Value.ownBlock] at hk))

/-- A slice value reads as bytes. -/
def BytesAt (w : World) (v : Value) (n : Nat) : Prop :=
  ∃ (a : Option Addr) (c : Nat), v = .slice a n c ∧ n ≤ c ∧ c ≤ 9223372036854775807 ∧ (a = none → n = 0 ∧ c = 0) ∧ ∃ xs : List Int, xs.length = n ∧ (∀ p, a = some p → ∀ j (h : j < xs.length), w.cell? (p.add j) = some (.int .u8 xs[j])) ∧ ∀ x ∈ xs, 0 ≤ x ∧ x ≤ 255

def NewPost (w : World) (e : Ending) (w' : World) : Prop :=
  ∃ bc, e = .returned (.pointer (some ⟨bc, 0, none⟩)) ∧ Below w.heap.size w w' ∧ w.heap.size ≤ bc ∧ CaseOk bc w'.heap.size w'

theorem own_slice {w : World} {base : Nat} {e : TypeId} {size : Nat} {v : Value} {n : Nat} {xs : List Value} (h : w.ownsRow base e size v n xs) : ∃ a c, v = .slice a n c := by
  rcases h.2 with ⟨rfl, rfl⟩ | ⟨g, cap, cur, rfl, _⟩
  · exact ⟨_, _, rfl⟩
  · exact ⟨_, _, rfl⟩

/-- What New lays down. -/
theorem new_ok {w w1 : World} {v : Value} {m : Nat} {xs : List Int} (hm : m ≤ 90) (hl : xs.length = m) (hx : ∀ x ∈ xs, 0 ≤ x ∧ x ≤ 255) (ho : w1.ownsRow w.heap.size 5 1 v m (xs.map (Value.int .u8))) (hb : Below w.heap.size w w1) (t : TypeId) :
    NewPost w (.returned (.pointer (some ⟨w1.heap.size, 0, none⟩))) (w1.alloc (.cells #[v, .int .i64 0] t)) := by
  have hbl : Below w1.heap.size w1 (w1.alloc (.cells #[v, .int .i64 0] t)) := (Below.refl _ _).alloc (Nat.le_refl _) _
  refine ⟨w1.heap.size, rfl, hb.trans (hbl.mono hb.size), hb.size, ?_⟩
  have c0 := World.cell?_alloc_mark w1 #[v, .int .i64 0] t (0, 0) 0
  have c1 := World.cell?_alloc_mark w1 #[v, .int .i64 0] t (0, 0) 1
  have f1 := World.frozen?_alloc_mark w1 #[v, .int .i64 0] t 0 0 1
  rcases ho.2 with ⟨rfl, rfl⟩ | ⟨g, cap, cur, rfl, hg, hgg, hnc, hcm, hcs, htake⟩
  · exact ⟨none, 0, 0, 0, ⟨by simp, Nat.le_refl _⟩, by omega, by omega, by omega, c0, c1, by rw [f1]; simp, fun j hj => absurd hj (by omega)⟩
  · have hgs : g < w1.heap.size := (Array.getElem?_eq_some_iff.1 hgg).1
    refine ⟨some ⟨g, 0, none⟩, m, cap, 0, ⟨by simp, Nat.le_refl _⟩, hm, by omega, by omega, c0, c1, by rw [f1]; simp, fun j hj => ⟨g, 0, xs[j]'(by omega), rfl, by simp; omega, by omega, ?_, ?_⟩⟩
    · rw [hbl.cell (p := ⟨g, 0 + j, none⟩) hgs, Nat.zero_add]
      have hc := ho.cellAt j (by omega)
      rw [hc]
      simp [List.getElem?_eq_getElem (show j < xs.length by omega)]
    · exact hx _ (List.getElem_mem _)

set_option maxRecDepth 100000 in
set_option maxHeartbeats 400000 in
theorem cNew_any (v : Value) (n : Nat) (w : World) (h : BytesAt w v n) : Calls Try.prog 10 #[v, .int .i64 90] w (NewPost w) := by
  obtain ⟨a, c, rfl, hnc, hcm, hnil, xs, hxl, hxs, hx⟩ := h
  have hinfo : (Try.prog.info? 5).map (fun i => (i.zero, i.size, i.bytes)) = some (some (.int .u8 0), 1, 1) := by kernel_rfl
  obtain ⟨i0, hi, hz0, hz1, hz2⟩ := info_parts hinfo
  obtain ⟨m, hm, hmn, hmmin⟩ : ∃ m : Nat, m ≤ 90 ∧ m ≤ n ∧ (m = 90 ∨ m = n) := by
    by_cases h : 90 < n
    · exact ⟨90, by omega, by omega, .inl rfl⟩
    · exact ⟨n, by omega, by omega, .inr rfl⟩
  have hnews : ∀ p, a = some p → ∀ j u, ((xs.take m).map (Value.int .u8))[j]? = some u → w.cell? (p.add j) = some u := by
    intro p hp j u hj
    have hc := hxs p hp
    have hjl : j < m := by have := (List.getElem?_eq_some_iff.1 hj).1; simp at this; omega
    rw [hc j (by omega), ← hj]
    rw [List.getElem?_map, List.getElem?_take, if_pos hjl, List.getElem?_eq_getElem (by omega)]
    rfl
  have hone : ∀ u ∈ (xs.take m).map (Value.int .u8), u.oneCell' = true := by
    intro u hu
    obtain ⟨x, _, rfl⟩ := List.mem_map.1 hu
    rfl
  have hlen : ((xs.take m).map (Value.int .u8)).length = m * 1 := by simp; omega
  have hx' : Hid (∀ x ∈ xs.take m, 0 ≤ x ∧ x ≤ 255) := fun x h => hx x (List.mem_of_mem_take h)
  have hlt : Hid ((xs.take m).length = m) := by show _ = _; simp; omega
  clear hx hxs hxl hinfo
  generalize xs.take m = ys at *
  have HNEWS := Lib.hid hnews
  have HONE := Lib.hid hone
  have HLEN := Lib.hid hlen
  have HNIL := Lib.hid hnil
  clear hnews hone hlen hnil
  have HI := Lib.hid hi
  have HZ0 := Lib.hid hz0
  have HZ1 := Lib.hid hz1
  have HZ2 := Lib.hid hz2
  clear hi hz0 hz1 hz2
  have HN1 : Hid (a = none → m = 0 ∧ c = 0) := fun e => by have := HNIL.out e; omega
  have HM1 : Hid (m ≤ maxLen) := by show m ≤ maxLen; unfold maxLen; omega
  have HM2 : Hid (m * 1 ≤ 140737488355328) := by show m * 1 ≤ _; omega
  rcases hmmin with rfl | rfl
  · by_cases h90 : (90 : Int) < n
    · go_enter Try.func10, Try.ntmps10
      go_wp2_with (at_builtin; refine wpList_append_nil rfl _ _ 22 rfl 5 i0 (.int .u8 0) 1 1 Try.underlying22 HI.out HZ0.out HZ1.out HZ2.out rfl (by decide) rfl _ _ _ _ rfl HN1.out HLEN.out HNEWS.out HONE.out HM1.out HM2.out ?_; intro v' w1 hown hb1; obtain ⟨va, vc, rfl⟩ := own_slice hown; have HOWN := Lib.hid hown; have HB1 := Lib.hid hb1; clear hown hb1)
      go_ret
      exact new_ok hm hlt.out hx'.out HOWN.out HB1.out _
    · have hn90 : n = 90 := by omega
      subst hn90
      clear h90
      go_enter Try.func10, Try.ntmps10
      go_wp2_with (at_builtin; refine wpList_append_nil rfl _ _ 22 rfl 5 i0 (.int .u8 0) 1 1 Try.underlying22 HI.out HZ0.out HZ1.out HZ2.out rfl (by decide) rfl _ _ _ _ rfl HN1.out HLEN.out HNEWS.out HONE.out HM1.out HM2.out ?_; intro v' w1 hown hb1; obtain ⟨va, vc, rfl⟩ := own_slice hown; have HOWN := Lib.hid hown; have HB1 := Lib.hid hb1; clear hown hb1)
      go_ret
      exact new_ok hm hlt.out hx'.out HOWN.out HB1.out _
  · by_cases h90 : (90 : Int) < m
    · omega
    · go_enter Try.func10, Try.ntmps10
      go_wp2_with (at_builtin; refine wpList_append_nil rfl _ _ 22 rfl 5 i0 (.int .u8 0) 1 1 Try.underlying22 HI.out HZ0.out HZ1.out HZ2.out rfl (by decide) rfl _ _ _ _ rfl HN1.out HLEN.out HNEWS.out HONE.out HM1.out HM2.out ?_; intro v' w1 hown hb1; obtain ⟨va, vc, rfl⟩ := own_slice hown; have HOWN := Lib.hid hown; have HB1 := Lib.hid hb1; clear hown hb1)
      go_ret
      exact new_ok hm hlt.out hx'.out HOWN.out HB1.out _
end Go.Proofs.Ytkkhepfokjogpaa
