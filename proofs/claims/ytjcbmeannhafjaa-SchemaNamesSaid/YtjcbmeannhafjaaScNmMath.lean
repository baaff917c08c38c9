
/- What Check answers for a case's plain schema with one table more. -/
import Derived.Test.YtjcbmeannhafjaaCPlain

import Derived.Test.YtjcbmeannhafjaaScCheck

import Derived.Test.YtjcbmeannhafjaaScFits

namespace Go.Proofs.Ytjcbmeannhafjaa

open Go.RowKit Go.Deep

theorem tabsB_snoc (t : TB) : ∀ (A : List TB) (S : List ByteArray), tabsB S (A ++ [t]) = (tabsB S A && tabsB ((A.map TB.s).reverse ++ S) [t])
  | [], S => by simp [tabsB]
  | a :: A, S => by
    have e : tabsB S (a :: A) = ((nameB a.s && !memB a.s S) && (colsB [] a.cs && (decide (1 ≤ a.key) && (decide (a.key ≤ a.cs.length) && tabsB (a.s :: S) A)))) := by rw [tabsB]
    rw [e, List.cons_append, tabsB, tabsB_snoc t A]
    simp only [List.map_cons, List.reverse_cons, List.append_assoc, List.singleton_append, Bool.and_assoc]
theorem fndL_mem (name : ByteArray) : ∀ (L : List TB) (k : Nat), (0 ≤ fndL name L k) ↔ name ∈ L.map TB.s
  | [], k => by simp [fndL]
  | t :: L, k => by
    rw [fndL]
    by_cases h : t.s = name
    · rw [if_pos h]; simp [h]
    · rw [if_neg h, fndL_mem name L (k + 1), List.map_cons, List.mem_cons]
      exact ⟨.inr, fun hh => hh.resolve_left fun e => h e.symm⟩
theorem fstT_bare : ∀ (L : List TB), (∀ t ∈ L, t.ck = []) → fstT L = 0
  | [], _ => rfl
  | t :: L, h => by
    rw [fstT, h t List.mem_cons_self, fstC, if_pos rfl]
    exact fstT_bare L fun t ht => h t (List.mem_cons_of_mem _ ht)
theorem refsT_bare {s : SC} {L : List TB} (h : ∀ t ∈ L, t.rs = []) : L.all (refsT s) = true := by
  rw [List.all_eq_true]
  intro t ht
  unfold refsT
  rw [h t ht]; rfl
def plnL (n : Nat) (id : Int) : List TB := [tP, tT id [] [], tM [], tA id []].take n
theorem plnL_cases {P : List TB → Int → Prop} {n : Nat} {id : Int} (hn : n = 2 ∨ n = 3 ∨ n = 4) (hid : id = 4 ∨ id = 5) (h : ∀ n, (n = 2 ∨ n = 3 ∨ n = 4) → ∀ id, (id = 4 ∨ id = 5) → P (plnL n id) id) : P (plnL n id) id := h n hn id hid
theorem plnL_len {n : Nat} (id : Int) (hn : n ≤ 4) : (plnL n id).length = n := by unfold plnL; simp; omega
theorem plnL_bare {n : Nat} {id : Int} : ∀ t ∈ plnL n id, t.rs = [] ∧ t.ck = [] := by
  intro t ht
  have h := List.mem_of_mem_take ht
  simp only [List.mem_cons, List.not_mem_nil, or_false] at h
  rcases h with rfl | rfl | rfl | rfl <;> exact ⟨rfl, rfl⟩
theorem plnL_small {n : Nat} {id : Int} : (plnL n id).all smallT = true := by
  rw [List.all_eq_true]
  intro t ht
  have h := List.mem_of_mem_take ht
  simp only [List.mem_cons, List.not_mem_nil, or_false] at h
  rcases h with rfl | rfl | rfl | rfl <;> rfl
theorem plnL_sound {n : Nat} {id : Int} (hn : n = 2 ∨ n = 3 ∨ n = 4) (hid : id = 4 ∨ id = 5) : tabsB [] (plnL n id) = true := by
  rcases hn with rfl | rfl | rfl <;> rcases hid with rfl | rfl <;> decide +kernel
theorem plnL_other {n : Nat} {id : Int} (hn : n = 2 ∨ n = 3 ∨ n = 4) : memB ⟨#[111, 116, 104, 101, 114]⟩ ((plnL n id).map TB.s).reverse = false := by
  have h : (plnL n id).map TB.s = (plnL n 4).map TB.s := by rcases hn with rfl | rfl | rfl <;> rfl
  rw [h]
  rcases hn with rfl | rfl | rfl <;> decide +kernel
def nmX (name : ByteArray) : TB := ⟨name, [⟨⟨#[105, 100]⟩, 4⟩], 1, [], []⟩
def nmY (name : ByteArray) : TB := ⟨⟨#[111, 116, 104, 101, 114]⟩, [⟨name, 4⟩], 1, [], []⟩
theorem checkS_snoc {n : Nat} {id ver : Int} (hn : n = 2 ∨ n = 3 ∨ n = 4) (hid : id = 4 ∨ id = 5) (hv : 0 ≤ ver ∧ ver ≤ 2) (t : TB) (hr : t.rs = []) (hc : t.ck = []) (hl : t.cs.length ≤ 8) :
    checkS ⟨ver, plnL n id ++ [t]⟩ = if tabsB (((plnL n id).map TB.s).reverse ++ []) [t] = false then 70 else 0 := by
  have hsm : smallS ⟨ver, plnL n id ++ [t]⟩ = true := by
    unfold smallS
    rw [List.all_append, plnL_small, Bool.true_and, Bool.and_eq_true]
    refine ⟨decide_eq_true (by rw [List.length_append, plnL_len id (by omega)]; simp; omega), ?_⟩
    simp [smallT, hr, hc, hl]
  have hbr : ∀ u ∈ plnL n id ++ [t], u.rs = [] := fun u hu => by
    rcases List.mem_append.1 hu with h | h
    · exact (plnL_bare u h).1
    · rw [List.mem_singleton.1 h]; exact hr
  have hbc : ∀ u ∈ plnL n id ++ [t], u.ck = [] := fun u hu => by
    rcases List.mem_append.1 hu with h | h
    · exact (plnL_bare u h).2
    · rw [List.mem_singleton.1 h]; exact hc
  have hso : soundS ⟨ver, plnL n id ++ [t]⟩ = tabsB (((plnL n id).map TB.s).reverse ++ []) [t] := by
    unfold soundS
    rw [decide_eq_true (p := 0 ≤ ver) hv.1, decide_eq_true (p := ver ≤ 1000) (by omega), tabsB_snoc, plnL_sound hn hid, refsT_bare hbr]
    simp
  unfold checkS
  rw [hsm, hso, if_neg (by simp), fstT_bare _ hbc]
theorem check_x {n : Nat} {id ver : Int} (hn : n = 2 ∨ n = 3 ∨ n = 4) (hid : id = 4 ∨ id = 5) (hv : 0 ≤ ver ∧ ver ≤ 2) (name : ByteArray) :
    checkS ⟨ver, plnL n id ++ [nmX name]⟩ = if nameB name = false ∨ 0 ≤ fndL name (plnL n id) 0 then 70 else 0 := by
  rw [checkS_snoc hn hid hv (nmX name) rfl rfl (by simp [nmX])]
  have hcl : colsB [] [⟨⟨#[105, 100]⟩, 4⟩] = true := by decide +kernel
  have e : tabsB (((plnL n id).map TB.s).reverse ++ []) [nmX name] = (nameB name && !memB name ((plnL n id).map TB.s).reverse) := by
    rw [List.append_nil, tabsB, tabsB]
    show ((nameB name && !memB name _) && (colsB [] [⟨⟨#[105, 100]⟩, 4⟩] && _)) = _
    rw [hcl]; simp [nmX]
  rw [e]
  suffices hcg : ((nameB name && !memB name ((plnL n id).map TB.s).reverse) = false) = (nameB name = false ∨ 0 ≤ fndL name (plnL n id) 0) by simp only [hcg]
  refine propext ?_
  rw [fndL_mem]
  cases h1 : nameB name with
  | false => simp
  | true =>
    rw [Bool.true_and]
    cases h2 : memB name ((plnL n id).map TB.s).reverse with
    | true => have := memB_iff.1 h2; rw [List.mem_reverse] at this; simp [this]
    | false =>
      have : ¬ name ∈ (plnL n id).map TB.s := fun h => by
        have := memB_iff.2 (List.mem_reverse.2 h)
        rw [this] at h2; cases h2
      simp [this]
theorem check_y {n : Nat} {id ver : Int} (hn : n = 2 ∨ n = 3 ∨ n = 4) (hid : id = 4 ∨ id = 5) (hv : 0 ≤ ver ∧ ver ≤ 2) (name : ByteArray) :
    checkS ⟨ver, plnL n id ++ [nmY name]⟩ = if nameB name = false then 70 else 0 := by
  rw [checkS_snoc hn hid hv (nmY name) rfl rfl (by simp [nmY])]
  have hnm : nameB ⟨#[111, 116, 104, 101, 114]⟩ = true := by decide +kernel
  have e : tabsB (((plnL n id).map TB.s).reverse ++ []) [nmY name] = nameB name := by
    rw [List.append_nil, tabsB, tabsB]
    show ((nameB ⟨#[111, 116, 104, 101, 114]⟩ && !memB ⟨#[111, 116, 104, 101, 114]⟩ _) && (colsB [] [⟨name, 4⟩] && _)) = _
    rw [hnm, plnL_other hn]
    simp [nmY, colsB, memB, okK]
  rw [e]
end Go.Proofs.Ytjcbmeannhafjaa
