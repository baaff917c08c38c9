
/- Schemas: which strings are names: isName of the program, Name of the reference. -/
import Derived.Test.YtjcbmeannhafjaaSlR

import Derived.Laws.RangeString

import Derived.Laws.RangeAny

import Derived.Maps.Own

import Derived.DeepKeys4

import Derived.Test.YtjcbmeannhafjaaScKinds

import Derived.Test.YtjcbmeannhafjaaPdMath

namespace Go.Proofs.Ytjcbmeannhafjaa

open Go.RowKit Go.Deep

def letB (n : Nat) : Bool := decide (97 ≤ n ∧ n ≤ 122)
def latB (n : Nat) : Bool := letB n || (decide (48 ≤ n ∧ n ≤ 57) || n == 95)
/-- May the letters from place k on stand there? -/
def nmT (s : ByteArray) : Nat → Nat → Bool
  | 0, _ => true
  | b + 1, k => (if h : k < s.size then (letB (s[k]'h).toNat || (k != 0 && latB (s[k]'h).toNat)) && nmT s b (k + 1) else true)
def nameB (s : ByteArray) : Bool := decide (1 ≤ s.size ∧ s.size ≤ 32) && nmT s s.size 0
theorem nmT_some (s : ByteArray) (b k : Nat) (h : k < s.size) : nmT s (b + 1) k = ((letB (s[k]'h).toNat || (k != 0 && latB (s[k]'h).toNat)) && nmT s b (k + 1)) := by
  rw [nmT, dif_pos h]
theorem nmT_end (s : ByteArray) (b k : Nat) (h : s.size ≤ k) : nmT s b k = true := by
  cases b with
  | zero => rfl
  | succ b => rw [nmT, dif_neg (by omega)]
theorem dec_rune (s : ByteArray) (k : Nat) (h : k < s.size) : ∃ r wd, Utf8.decode s k = (r, wd) ∧ ((r < 128 ∧ (s[k]'h).toNat = r ∧ wd = 1) ∨ (128 ≤ r ∧ 128 ≤ (s[k]'h).toNat)) := by
  by_cases ha : (s[k]'h).toNat < 128
  · exact ⟨_, _, decode_ascii s k h ha, .inl ⟨ha, rfl, rfl⟩⟩
  · exact ⟨_, _, rfl, .inr ⟨(decode_high s k h (by omega)).1, by omega⟩⟩
theorem below_iter (w : World) (s : ByteArray) (p : Nat) : Below w.heap.size w (w.iter s p) := (Below.refl _ _).alloc (Nat.le_refl _) _

set_option maxHeartbeats 2000000 in
theorem sIsName_any (s : ByteArray) (w : World) : Calls Try.prog 103 #[.string s] w fun e w' => e = .returned (.bool (nameB s)) ∧ Below w.heap.size w w' := by
  obtain ⟨z, hz⟩ : ∃ z, nameB s = z := ⟨_, rfl⟩
  rw [hz]
  have HZ := Lib.hid hz
  clear hz
  by_cases h1 : s.size < 1
  · have HR : Hid (z = false) := by show _ = _; rw [← HZ.out]; unfold nameB; rw [decide_eq_false (p := 1 ≤ s.size ∧ s.size ≤ 32) (by omega)]; rfl
    have d1 : decide ((s.size : Int) < 1) = true := decide_eq_true (by omega)
    have d2 : decide (s.size < 1) = true := decide_eq_true (by omega)
    go_enter Try.func103, Try.ntmps103
    go_wp2_with fail
    go_ret
    exact ⟨by rw [HR.out]; rfl, Below.refl _ _⟩
  · have d1 : decide ((s.size : Int) < 1) = false := decide_eq_false (by omega)
    have d2 : decide (s.size < 1) = false := decide_eq_false (by omega)
    by_cases h2 : 32 < s.size
    · have HR : Hid (z = false) := by show _ = _; rw [← HZ.out]; unfold nameB; rw [decide_eq_false (p := 1 ≤ s.size ∧ s.size ≤ 32) (by omega)]; rfl
      have d3 : decide (32 < (s.size : Int)) = true := decide_eq_true (by omega)
      have d4 : decide (32 < s.size) = true := decide_eq_true (by omega)
      go_enter Try.func103, Try.ntmps103
      go_wp2_with fail
      go_ret
      exact ⟨by rw [HR.out]; rfl, Below.refl _ _⟩
    · have d3 : decide (32 < (s.size : Int)) = false := decide_eq_false (by omega)
      have d4 : decide (32 < s.size) = false := decide_eq_false (by omega)
      have HT0 : Hid (nmT s s.size 0 = z) := by show _ = _; rw [← HZ.out]; unfold nameB; rw [decide_eq_true (p := 1 ≤ s.size ∧ s.size ≤ 32) (by omega)]; rfl
      clear HZ
      go_enter Try.func103, Try.ntmps103
      go_wp2_with fail
      clear d1 d2 d3 d4
      go_loopw [] (fun w' => ∃ (k b : Nat), w' = w.iter s k ∧ Hid (nmT s b k = z) ∧ s.size ≤ k + b) (fun w' => s.size - w'.iterPos w.heap.size)
      case atStart => exact ⟨0, s.size, rfl, HT0, by omega⟩
      case round =>
        obtain ⟨k, b, rfl, HT, hb⟩ := hrel
        clear HT0
        by_cases hp : k < s.size
        · have hnx : ∀ ty, (Instr.next (.pointer (some ⟨w.heap.size, 0, none⟩)) true ty).run Try.prog (w.iter s k) = _ := fun ty => run_next_any w s k ty hp
          obtain ⟨r, wd, hdec, hcs⟩ := dec_rune s k hp
          rw [hdec] at hnx
          obtain ⟨b, rfl⟩ : ∃ b', b = b' + 1 := ⟨b - 1, by omega⟩
          have HD := Lib.hid (nmT_some s b k hp)
          generalize (s[k]'hp).toNat = n at *
          clear hdec
          by_cases c0 : r < 48
          · have hrn : n = r ∧ wd = 1 := by omega
            obtain ⟨rfl, rfl⟩ := hrn
            have d0 : decide (97 ≤ n) = false := by simp; omega
            have i0 : decide (97 ≤ (n : Int)) = false := by simp; omega
            have d1 : decide (n ≤ 122) = true := by simp; omega
            have i1 : decide ((n : Int) ≤ 122) = true := by simp; omega
            have d2 : decide (48 ≤ n) = false := by simp; omega
            have i2 : decide (48 ≤ (n : Int)) = false := by simp; omega
            have d3 : decide (n ≤ 57) = true := by simp; omega
            have i3 : decide ((n : Int) ≤ 57) = true := by simp; omega
            have d4 : (n == 95) = false := by simp; omega
            have i4 : ((n : Int) == 95) = false := by simp; omega
            have hnl : letB n = false ∧ latB n = false := by unfold latB letB; simp; omega
            rw [hnl.1, hnl.2] at HD
            have HR : Hid (z = false) := by show _ = _; rw [← HT.out, HD.out]; simp
            clear hnl hcs c0 HD HT
            go_wp2_with fail
            all_goals
              go_ret
              exact ⟨by rw [HR.out]; rfl, below_iter _ _ _⟩
          · skip
            by_cases c1 : r < 58
            · have hrn : n = r ∧ wd = 1 := by omega
              obtain ⟨rfl, rfl⟩ := hrn
              have d0 : decide (97 ≤ n) = false := by simp; omega
              have i0 : decide (97 ≤ (n : Int)) = false := by simp; omega
              have d1 : decide (n ≤ 122) = true := by simp; omega
              have i1 : decide ((n : Int) ≤ 122) = true := by simp; omega
              have d2 : decide (48 ≤ n) = true := by simp; omega
              have i2 : decide (48 ≤ (n : Int)) = true := by simp; omega
              have d3 : decide (n ≤ 57) = true := by simp; omega
              have i3 : decide ((n : Int) ≤ 57) = true := by simp; omega
              have d4 : (n == 95) = false := by simp; omega
              have i4 : ((n : Int) == 95) = false := by simp; omega
              have hnl : letB n = false ∧ latB n = true := by unfold latB letB; simp; omega
              rw [hnl.1, hnl.2] at HD
              by_cases hk0 : k = 0
              · have HR : Hid (z = false) := by show _ = _; rw [← HT.out, HD.out, hk0]; rfl
                subst hk0
                clear hnl hcs c0 c1 HD HT
                go_wp2_with fail
                all_goals
                  go_ret
                  exact ⟨by rw [HR.out]; rfl, below_iter _ _ _⟩
              · have HR : Hid (nmT s b (k + 1) = z) := by show _ = _; rw [← HT.out, HD.out]; simp [hk0]
                have e0 : (k == 0) = false := by simpa using hk0
                have e1 : ((k : Int) == 0) = false := by simp; omega
                clear hnl hcs c0 c1 HD HT hk0
                go_wp2_with fail
                go_roundw
                case rel => exact ⟨k + 1, b, rfl, HR, by omega⟩
                case measure => simp; omega
            · skip
              by_cases c2 : r < 95
              · have hrn : n = r ∧ wd = 1 := by omega
                obtain ⟨rfl, rfl⟩ := hrn
                have d0 : decide (97 ≤ n) = false := by simp; omega
                have i0 : decide (97 ≤ (n : Int)) = false := by simp; omega
                have d1 : decide (n ≤ 122) = true := by simp; omega
                have i1 : decide ((n : Int) ≤ 122) = true := by simp; omega
                have d2 : decide (48 ≤ n) = true := by simp; omega
                have i2 : decide (48 ≤ (n : Int)) = true := by simp; omega
                have d3 : decide (n ≤ 57) = false := by simp; omega
                have i3 : decide ((n : Int) ≤ 57) = false := by simp; omega
                have d4 : (n == 95) = false := by simp; omega
                have i4 : ((n : Int) == 95) = false := by simp; omega
                have hnl : letB n = false ∧ latB n = false := by unfold latB letB; simp; omega
                rw [hnl.1, hnl.2] at HD
                have HR : Hid (z = false) := by show _ = _; rw [← HT.out, HD.out]; simp
                clear hnl hcs c0 c1 c2 HD HT
                go_wp2_with fail
                all_goals
                  go_ret
                  exact ⟨by rw [HR.out]; rfl, below_iter _ _ _⟩
              · skip
                by_cases c3 : r < 96
                · have hrn : n = r ∧ wd = 1 := by omega
                  obtain ⟨rfl, rfl⟩ := hrn
                  have d0 : decide (97 ≤ n) = false := by simp; omega
                  have i0 : decide (97 ≤ (n : Int)) = false := by simp; omega
                  have d1 : decide (n ≤ 122) = true := by simp; omega
                  have i1 : decide ((n : Int) ≤ 122) = true := by simp; omega
                  have d2 : decide (48 ≤ n) = true := by simp; omega
                  have i2 : decide (48 ≤ (n : Int)) = true := by simp; omega
                  have d3 : decide (n ≤ 57) = false := by simp; omega
                  have i3 : decide ((n : Int) ≤ 57) = false := by simp; omega
                  have d4 : (n == 95) = true := by simp; omega
                  have i4 : ((n : Int) == 95) = true := by simp; omega
                  have hnl : letB n = false ∧ latB n = true := by unfold latB letB; simp; omega
                  rw [hnl.1, hnl.2] at HD
                  by_cases hk0 : k = 0
                  · have HR : Hid (z = false) := by show _ = _; rw [← HT.out, HD.out, hk0]; rfl
                    subst hk0
                    clear hnl hcs c0 c1 c2 c3 HD HT
                    go_wp2_with fail
                    all_goals
                      go_ret
                      exact ⟨by rw [HR.out]; rfl, below_iter _ _ _⟩
                  · have HR : Hid (nmT s b (k + 1) = z) := by show _ = _; rw [← HT.out, HD.out]; simp [hk0]
                    have e0 : (k == 0) = false := by simpa using hk0
                    have e1 : ((k : Int) == 0) = false := by simp; omega
                    clear hnl hcs c0 c1 c2 c3 HD HT hk0
                    go_wp2_with fail
                    go_roundw
                    case rel => exact ⟨k + 1, b, rfl, HR, by omega⟩
                    case measure => simp; omega
                · skip
                  by_cases c4 : r < 97
                  · have hrn : n = r ∧ wd = 1 := by omega
                    obtain ⟨rfl, rfl⟩ := hrn
                    have d0 : decide (97 ≤ n) = false := by simp; omega
                    have i0 : decide (97 ≤ (n : Int)) = false := by simp; omega
                    have d1 : decide (n ≤ 122) = true := by simp; omega
                    have i1 : decide ((n : Int) ≤ 122) = true := by simp; omega
                    have d2 : decide (48 ≤ n) = true := by simp; omega
                    have i2 : decide (48 ≤ (n : Int)) = true := by simp; omega
                    have d3 : decide (n ≤ 57) = false := by simp; omega
                    have i3 : decide ((n : Int) ≤ 57) = false := by simp; omega
                    have d4 : (n == 95) = false := by simp; omega
                    have i4 : ((n : Int) == 95) = false := by simp; omega
                    have hnl : letB n = false ∧ latB n = false := by unfold latB letB; simp; omega
                    rw [hnl.1, hnl.2] at HD
                    have HR : Hid (z = false) := by show _ = _; rw [← HT.out, HD.out]; simp
                    clear hnl hcs c0 c1 c2 c3 c4 HD HT
                    go_wp2_with fail
                    all_goals
                      go_ret
                      exact ⟨by rw [HR.out]; rfl, below_iter _ _ _⟩
                  · skip
                    by_cases c5 : r < 123
                    · have hrn : n = r ∧ wd = 1 := by omega
                      obtain ⟨rfl, rfl⟩ := hrn
                      have d0 : decide (97 ≤ n) = true := by simp; omega
                      have i0 : decide (97 ≤ (n : Int)) = true := by simp; omega
                      have d1 : decide (n ≤ 122) = true := by simp; omega
                      have i1 : decide ((n : Int) ≤ 122) = true := by simp; omega
                      have d2 : decide (48 ≤ n) = true := by simp; omega
                      have i2 : decide (48 ≤ (n : Int)) = true := by simp; omega
                      have d3 : decide (n ≤ 57) = false := by simp; omega
                      have i3 : decide ((n : Int) ≤ 57) = false := by simp; omega
                      have d4 : (n == 95) = false := by simp; omega
                      have i4 : ((n : Int) == 95) = false := by simp; omega
                      have hnl : letB n = true ∧ latB n = true := by unfold latB letB; simp; omega
                      rw [hnl.1, hnl.2] at HD
                      have HR : Hid (nmT s b (k + 1) = z) := by show _ = _; rw [← HT.out, HD.out]; simp
                      clear hnl hcs c0 c1 c2 c3 c4 c5 HD HT
                      go_wp2_with fail
                      go_roundw
                      case rel => exact ⟨k + 1, b, rfl, HR, by omega⟩
                      case measure => simp; omega
                    · skip
                      have hnl : letB n = false ∧ latB n = false := by unfold latB letB; simp; omega
                      have d0 : decide (97 ≤ r) = true := by simp; omega
                      have i0 : decide (97 ≤ (r : Int)) = true := by simp; omega
                      have d1 : decide (r ≤ 122) = false := by simp; omega
                      have i1 : decide ((r : Int) ≤ 122) = false := by simp; omega
                      have d2 : decide (48 ≤ r) = true := by simp; omega
                      have i2 : decide (48 ≤ (r : Int)) = true := by simp; omega
                      have d3 : decide (r ≤ 57) = false := by simp; omega
                      have i3 : decide ((r : Int) ≤ 57) = false := by simp; omega
                      have d4 : (r == 95) = false := by simp; omega
                      have i4 : ((r : Int) == 95) = false := by simp; omega
                      rw [hnl.1, hnl.2] at HD
                      have HR : Hid (z = false) := by show _ = _; rw [← HT.out, HD.out]; simp
                      clear hnl hcs c0 c1 c2 c3 c4 c5 HD HT
                      go_wp2_with fail
                      all_goals
                        go_ret
                        exact ⟨by rw [HR.out]; rfl, below_iter _ _ _⟩
        · have HR : Hid (z = true) := by show _ = _; rw [← HT.out]; exact nmT_end s b k (by omega)
          have hnx : ∀ ty, (Instr.next (.pointer (some ⟨w.heap.size, 0, none⟩)) true ty).run Try.prog (w.iter s k) = _ := fun ty => run_next_end w s k ty hp
          clear HT
          go_wp2_with fail
          go_ret
          exact ⟨by rw [HR.out]; rfl, below_iter _ _ _⟩
end Go.Proofs.Ytjcbmeannhafjaa

/- Maps from strings to bool whose elements are all true: what was seen. newName of package schema. -/
namespace Go.Proofs.Ytjcbmeannhafjaa

open Go.RowKit Go.ChangeMaps Go.MapKept Go.Deep

open Go.WideElems (Fit rd rg pl rd_key rd_val rd_mk rg_of)

open Go.Maps (Keyed)

noncomputable abbrev elB (v : Value) : Option (DataW Unit × List MemPlace) := plainElem Try.prog 4 v
theorem keyStr : Keyed Try.prog 9 := Maps.string_keyed Try.underlying9
theorem keyStr_mk {s : ByteArray} (hs : s.size ≤ maxLen) : keyOf Try.prog 9 (.string s) = some (.string s.data.toList) := WideMaps.keyOf_string_mk Try.underlying9 hs

def memB (s : ByteArray) (S : List ByteArray) : Bool := S.any fun t => decide (t = s)
theorem memB_iff {s : ByteArray} {S : List ByteArray} : memB s S = true ↔ s ∈ S := by
  unfold memB
  rw [List.any_eq_true]
  constructor
  · rintro ⟨t, h1, h2⟩; rw [← of_decide_eq_true h2]; exact h1
  · intro h; exact ⟨s, h, by simp⟩
theorem memB_no {s : ByteArray} {S : List ByteArray} (h : ¬ s ∈ S) : memB s S = false := by
  cases hm : memB s S with
  | false => rfl
  | true => exact absurd (memB_iff.1 hm) h
/-- Block b is a map whose keys are the strings of S, and whose elements are true. -/
def MapS (W : World) (b : Nat) (S : List ByteArray) : Prop :=
  ∃ es clock, W.heap[b]? = some (.map es clock) ∧ Fit Try.prog 9 elB es clock ∧ es.size ≤ S.length ∧ (∀ s ∈ S, ∃ e ∈ es.toList, e.key = .string s ∧ e.val = .bool true) ∧ ∀ e ∈ es.toList, e.val = .bool true ∧ ∃ s ∈ S, e.key = .string s
theorem MapS.made (W : World) : MapS (W.alloc (.map #[] 0)) W.heap.size [] :=
  ⟨#[], 0, (MapKept.heap_alloc W _).1, ⟨by simp, stamped_empty 0, by simp⟩, Nat.le_refl _, fun _ h => by simp at h, by simp⟩
variable {W W' : World} {b : Nat} {S : List ByteArray}
theorem MapS.kept (h : MapS W b S) (hb : W'.heap[b]? = W.heap[b]?) : MapS W' b S := by
  obtain ⟨es, clock, h1, h2⟩ := h
  exact ⟨es, clock, hb.trans h1, h2⟩
theorem MapS.lt (h : MapS W b S) : b < W.heap.size := by
  obtain ⟨es, clock, hb, _⟩ := h
  exact (Array.getElem?_eq_some_iff.1 hb).1
theorem MapS.below (h : MapS W b S) (hb : Below W.heap.size W W') : MapS W' b S := h.kept (hb.block b h.lt)
theorem MapS.look (h : MapS W b S) {s : ByteArray} (hs : s.size ≤ maxLen) :
    (Instr.lookup 125 (.map (some b)) (.string s) false).run Try.prog W = .ok (.bool (memB s S)) W := by
  obtain ⟨es, clock, hb, F, -, h1, h2⟩ := h
  have hz : (zeroValue 4).run Try.prog W = .ok (.bool false) W := by kernel_rfl
  rcases Maps.fit_look false keyStr Try.underlying125 hz hb F (keyStr_mk hs) with ⟨hrun, hno, -⟩ | ⟨e0, y, hm, he, hrun, -⟩
  · have : ¬ s ∈ S := fun hm => by
      obtain ⟨e, he, hk, -⟩ := h1 s hm
      exact hno e he hk
    rw [hrun, memB_no this]
    rfl
  · obtain ⟨hv, t, ht, hk⟩ := h2 e0 hm
    rw [he] at hk
    simp only [Value.string.injEq] at hk
    rw [hrun, hv, memB_iff.2 (hk ▸ ht)]
    rfl
set_option maxRecDepth 100000 in
set_option maxHeartbeats 1000000 in
theorem MapS.put (h : MapS W b S) (hn : S.length < maxLen) {s : ByteArray} (hs : s.size ≤ maxLen) :
    ∃ W', (Instr.mapUpdate 125 (.map (some b)) (.string s) (.bool true)).run Try.prog W = .ok () W' ∧ MapS W' b (s :: S) ∧ W.grownBy W' (some b) := by
  obtain ⟨es, clock, hb, F, hsz, h1, h2⟩ := h
  have K := keyStr
  have hkey := keyStr_mk hs
  have hval : elB (.bool true) = some (.lit (.bool true), []) := plainElem_bool Try.underlying4 true
  obtain ⟨es', clock', hrun, F', hput, -, -, hwho⟩ := Maps.fit_store (R' := elB) K Try.underlying125 hb F (Nat.lt_of_le_of_lt hsz hn) (fun _ _ _ _ hz => hz) hkey hval
  have back : ∀ p ∈ putKey (.string s.data.toList) (.lit (.bool true)) ((es.toList.map (rg Try.prog 9 elB)).foldr DataW.insert []), ∃ e ∈ es'.toList, rg Try.prog 9 elB e = p := fun p hp => by
    rw [← hput, (WideShapes.sorted_perm _).mem_iff] at hp
    obtain ⟨e, he, h⟩ := List.mem_map.1 hp
    exact ⟨e, he, h⟩
  refine ⟨_, hrun, ⟨es', clock', heap_setBlock_same hb _, F', ?_, fun y hy => ?_, fun e he => ?_⟩, ⟨rfl, rfl, rfl, by simp [setBlock], fun i _ hi => heap_setBlock_other hb _ (fun e => hi (by rw [e]))⟩⟩
  · have e1 : es'.size = ((es'.toList.map (rg Try.prog 9 elB)).foldr DataW.insert []).length := by rw [length_sorted]; simp
    rw [e1, hput]
    unfold putKey
    rw [length_insert]
    have e2 := List.length_filter_le (notKey (.string s.data.toList)) ((es.toList.map (rg Try.prog 9 elB)).foldr DataW.insert [])
    rw [length_sorted] at e2
    simp at e2
    simp only [List.length_cons]
    omega
  · by_cases hyx : y = s
    · subst hyx
      obtain ⟨e, he, hr⟩ := back (.string y.data.toList, .lit (.bool true)) (mem_insert_iff.2 (.inl rfl))
      obtain ⟨z, hz⟩ := F'.reads e he
      have hk1 := rd_key hz
      rw [rg_of hz] at hr
      subst hr
      have hk2 := K.inj hk1 hkey
      rcases hwho e he with ⟨-, hne⟩ | ⟨-, hv⟩
      · exact absurd hk2 hne
      · exact ⟨e, he, hk2, hv⟩
    · have hyS : y ∈ S := by
        rcases List.mem_cons.1 hy with h | h
        · exact absurd h hyx
        · exact h
      obtain ⟨e, he, hek, hv⟩ := h1 y hyS
      obtain ⟨z, hz⟩ := F.reads e he
      have hk1 := rd_key hz
      have hne : z.1 ≠ .string s.data.toList := fun h => hyx (by
        have h2 := K.inj (h ▸ hk1) hkey
        rw [hek] at h2
        simpa using h2)
      have hin : rg Try.prog 9 elB e ∈ putKey (.string s.data.toList) (.lit (.bool true)) ((es.toList.map (rg Try.prog 9 elB)).foldr DataW.insert []) := by
        refine mem_insert_iff.2 (.inr (List.mem_filter.2 ⟨(WideShapes.sorted_perm _).mem_iff.2 (List.mem_map_of_mem he), ?_⟩))
        rw [Maps.notKey_iff (K.key hkey), rg_of hz]
        exact hne
      obtain ⟨e', he', hr⟩ := back _ hin
      obtain ⟨z', hz'⟩ := F'.reads e' he'
      rw [rg_of hz, rg_of hz'] at hr
      subst hr
      have hkk : e'.key = e.key := K.inj (rd_key hz') hk1
      rcases hwho e' he' with ⟨hold, -⟩ | ⟨hx, -⟩
      · exact ⟨e', he', hkk.trans hek, (h2 e' hold).1⟩
      · exact absurd (by have := (hkk.trans hek).symm.trans hx; simpa using this) hyx
  · rcases hwho e he with ⟨hold, hne⟩ | ⟨hx, hv⟩
    · obtain ⟨hv, t, ht, hk⟩ := h2 e hold
      exact ⟨hv, t, List.mem_cons_of_mem _ ht, hk⟩
    · exact ⟨hv, s, List.mem_cons_self, hx⟩

/-- What newName leaves. -/
def NewNm (b : Nat) (S : List ByteArray) (s : ByteArray) (w : World) (e : Ending) (w' : World) : Prop :=
  e = .returned (.bool (nameB s && !memB s S)) ∧ Mv b w w' ∧ MapS w' b (if (nameB s && !memB s S) = true then s :: S else S)
set_option maxRecDepth 100000 in
set_option maxHeartbeats 1000000 in
theorem sNewName_any (b : Nat) (S : List ByteArray) (s : ByteArray) (w : World) (h : MapS w b S) (hs : s.size ≤ maxLen) (hn : S.length < maxLen) : Calls Try.prog 84 #[.map (some b), .string s] w (NewNm b S s w) := by
  unfold NewNm
  have HN := Lib.hid (sIsName_any s w)
  have HM := Lib.hid h
  have HS := Lib.hid hs
  have HL := Lib.hid hn
  have hbl := h.lt
  obtain ⟨nb, hnb⟩ : ∃ nb, nameB s = nb := ⟨_, rfl⟩
  obtain ⟨mb, hmb⟩ : ∃ mb, memB s S = mb := ⟨_, rfl⟩
  rw [hnb] at HN
  rw [hnb, hmb]
  have HMB := Lib.hid hmb
  clear h hnb hmb hs hn
  cases nb with
  | false =>
    go_enter Try.func84, Try.ntmps84
    go_wp2_with fail
    refine HN.out.mono ?_
    rintro e w1 ⟨rfl, hb⟩
    have HB := Lib.hid hb
    clear hb
    go_wp2_with fail
    go_ret
    exact ⟨rfl, Mv.of_below HB.out, HM.out.below HB.out⟩
  | true =>
    go_enter Try.func84, Try.ntmps84
    go_wp2_with fail
    refine HN.out.mono ?_
    rintro e w1 ⟨rfl, hb⟩
    have HB := Lib.hid hb
    have HM1 := Lib.hid (HM.out.below hb)
    have hlook := HM1.out.look HS.out
    rw [HMB.out] at hlook
    clear hb
    cases mb with
    | true =>
      go_wp2_with fail
      go_ret
      exact ⟨rfl, Mv.of_below HB.out, HM1.out⟩
    | false =>
      obtain ⟨W', hrun, hm, hg⟩ := HM1.out.put HL.out HS.out
      have HP := Lib.hid hm
      have HG : Hid (Mv b w1 W') := ⟨hg.os, hg.tape, hg.output, hg.size, fun k hk hn => hg.block k hk (by simpa using hn)⟩
      clear hm hg
      go_wp2_with fail
      go_ret
      exact ⟨rfl, (Mv.of_below HB.out).trans HG.out, HP.out⟩
end Go.Proofs.Ytjcbmeannhafjaa

/- Schemas: soundColumns, soundTables, small of the program. -/
namespace Go.Proofs.Ytjcbmeannhafjaa

open Go.RowKit Go.Deep

/-- Are the columns valid, given the names that were seen? -/
def colsB : List ByteArray → List CL → Bool
  | _, [] => true
  | S, c :: r => (nameB c.s && !memB c.s S) && (okK c.k && colsB (c.s :: S) r)
theorem colsB_drop (S : List ByteArray) (cs : List CL) (k : Nat) (h : k < cs.length) : colsB S (cs.drop k) = ((nameB cs[k].s && !memB cs[k].s S) && (okK cs[k].k && colsB (cs[k].s :: S) (cs.drop (k + 1)))) := by
  rw [List.drop_eq_getElem_cons h, colsB]
theorem colsB_end (S : List ByteArray) (cs : List CL) (k : Nat) (h : cs.length ≤ k) : colsB S (cs.drop k) = true := by
  rw [List.drop_eq_nil_of_le h, colsB]
/-- Are the tables valid, but for references and checks? -/
def tabsB : List ByteArray → List TB → Bool
  | _, [] => true
  | S, t :: r => (nameB t.s && !memB t.s S) && (colsB [] t.cs && (decide (1 ≤ t.key) && (decide (t.key ≤ t.cs.length) && tabsB (t.s :: S) r)))
theorem tabsB_drop (S : List ByteArray) (ts : List TB) (k : Nat) (h : k < ts.length) : tabsB S (ts.drop k) = ((nameB ts[k].s && !memB ts[k].s S) && (colsB [] ts[k].cs && (decide (1 ≤ ts[k].key) && (decide (ts[k].key ≤ ts[k].cs.length) && tabsB (ts[k].s :: S) (ts.drop (k + 1)))))) := by
  rw [List.drop_eq_getElem_cons h, tabsB]
theorem tabsB_end (S : List ByteArray) (ts : List TB) (k : Nat) (h : ts.length ≤ k) : tabsB S (ts.drop k) = true := by
  rw [List.drop_eq_nil_of_le h, tabsB]
/-- Names are not too long for a map's keys, and there are not too many. -/
def namesOk (cs : List CL) : Prop := ∀ c ∈ cs, c.s.size ≤ maxLen
/-- What stood before a map was made still stands, and nothing that was there has changed. -/
theorem mv_below {b : Nat} {w w0 w1 : World} (h : Mv b w0 w1) (hb : Below w.heap.size w w0) (hlt : w.heap.size ≤ b) : Below w.heap.size w w1 :=
  hb.trans (h.below hlt hb.size)

set_option maxRecDepth 100000 in
set_option maxHeartbeats 2000000 in
theorem sSoundColumns_any {P : Nat → Prop} (v : Value) (cs : List CL) (w : World) (h : SlR colK P w v cs) (hnm : namesOk cs) : Calls Try.prog 85 #[v] w fun e w' => e = .returned (.bool (colsB [] cs)) ∧ Below w.heap.size w w' := by
  obtain ⟨a, c, rfl, hf⟩ := h.shape
  have hfew := hf.few
  have H := Lib.hid h
  have HNM := Lib.hid hnm
  obtain ⟨n, hn⟩ : ∃ n, cs.length = n := ⟨_, rfl⟩
  obtain ⟨z, hz⟩ : ∃ z, colsB [] (cs.drop 0) = z := ⟨_, rfl⟩
  rw [show colsB [] cs = colsB [] (cs.drop 0) from rfl, hz]
  have HZ := Lib.hid hz
  have HN := Lib.hid hn
  rw [hn] at H hfew ⊢
  clear h hnm hf hn hz
  obtain ⟨W1, hW1⟩ : ∃ W1, w.alloc (.map #[] 0) = W1 := ⟨_, rfl⟩
  have HB0 : Hid (Below w.heap.size w W1) := by rw [← hW1]; exact (Below.refl _ _).alloc (Nat.le_refl _) _
  have hs1 : w.heap.size < W1.heap.size := by rw [← hW1]; simp
  have HM0 : Hid (MapS W1 w.heap.size []) := by rw [← hW1]; exact MapS.made w
  have HW1 := Lib.hid hW1
  have hmk : ∀ u : World, (Instr.makeMap 125 none).run Try.prog u = .ok (.map (some u.heap.size)) (u.alloc (.map #[] 0)) := fun u => rfl
  clear hW1
  go_enter Try.func85, Try.ntmps85
  go_wp2_with fail
  rw [HW1.out]
  clear HW1
  go_loopw [9] (fun i wr => ∃ (k : Nat) (S : List ByteArray), k ≤ n ∧ i = .int .i64 k ∧ Hid (S.length = k) ∧ Hid (colsB S (cs.drop k) = z) ∧ Hid (Mv w.heap.size W1 wr) ∧ Hid (MapS wr w.heap.size S)) (fun i _ => n - (intOf i).toNat)
  case atStart => exact ⟨0, [], by omega, rfl, rfl, HZ, Mv.refl _ _, HM0⟩
  case round =>
    obtain ⟨k, S, hk, rfl, HL, HT, HX, HM⟩ := hrel
    clear HZ HM0
    have hzz := HX.out.size
    have HW : Hid (Below w.heap.size w wr) := mv_below HX.out HB0.out (Nat.le_refl _)
    have hwr : w.heap.size < wr.heap.size := by omega
    by_cases hlt : k < n
    · have hlt' : (k : Int) < n := by omega
      have hkc : k < cs.length := by rw [HN.out]; exact hlt
      obtain ⟨b, off, rfl, -, hb, c0, c1⟩ := col_get (H.out.below HW.out) hkc
      have HD := Lib.hid (colsB_drop S cs k hkc)
      have hsz := HNM.out _ (List.getElem_mem hkc)
      have HNN : Hid (∀ O, Calls Try.prog 84 #[.map (some w.heap.size), .string cs[k].s] (wr.alloc O) (NewNm w.heap.size S cs[k].s (wr.alloc O))) := fun O => sNewName_any w.heap.size S cs[k].s (wr.alloc O) (HM.out.below ((Below.refl _ _).alloc (Nat.le_refl _) O)) hsz (by rw [HL.out]; unfold maxLen; omega)
      unfold NewNm at HNN
      obtain ⟨y, hy⟩ : ∃ y, (nameB cs[k].s && !memB cs[k].s S) = y := ⟨_, rfl⟩
      rw [hy] at HNN HD
      clear hy hsz
      obtain ⟨x0, hx0⟩ : ∃ x, cs[k].s = x := ⟨_, rfl⟩
      obtain ⟨x1, hx1⟩ : ∃ x, cs[k].k = x := ⟨_, rfl⟩
      rw [hx0] at HNN HD c0
      rw [hx1] at HD c1
      clear hx0 hx1
      obtain ⟨wb, hwb⟩ : ∃ wb, wr.alloc (.cells #[.string x0, .int .i64 x1] 35) = wb := ⟨_, rfl⟩
      have hbs : wb.heap.size = wr.heap.size + 1 := by rw [← hwb]; simp
      have HXB : Hid (Mv w.heap.size W1 wb) := by rw [← hwb]; exact HX.out.alloc _
      have q1 : wb.cell? ⟨wr.heap.size, 1, none⟩ = some (.int .i64 x1) := by subst hwb; go_simp
      have HQ : Hid (∀ W, Mv w.heap.size wb W → W.cell? ⟨wr.heap.size, 1, none⟩ = some (.int .i64 x1)) := fun W hm => (hm.cell (p := ⟨wr.heap.size, 1, none⟩) (show wr.heap.size < _ by omega) (show wr.heap.size ≠ _ by omega)).trans q1
      have HWB := Lib.hid hwb
      clear q1 hwb
      go_wp2_with fail
      refine (HNN.out _).mono ?_
      rintro e w2 ⟨rfl, hm, hms⟩
      rw [HWB.out] at hm
      have q1 := HQ.out _ hm
      have HX2 := Lib.hid (HXB.out.trans hm)
      have HM2 := Lib.hid hms
      clear hm hms HNN
      cases y with
      | false =>
        have HR : Hid (z = false) := by show _ = _; rw [← HT.out, HD.out]; rfl
        clear HD HT
        go_wp2_with fail
        go_ret
        exact ⟨by rw [HR.out]; rfl, mv_below HX2.out HB0.out (Nat.le_refl _)⟩
      | true =>
        rw [if_pos rfl] at HM2
        cases hok : okK x1 with
        | true =>
          have HR : Hid (colsB (x0 :: S) (cs.drop (k + 1)) = z) := by show _ = _; rw [← HT.out, HD.out, hok]; rfl
          clear HD HT
          rcases okK_yes hok with rfl | rfl | rfl
          all_goals
            clear hok
            go_wp2_with fail
            go_roundw
            case rel => exact ⟨k + 1, x0 :: S, by omega, by go_num, by show _ = _; rw [List.length_cons, HL.out], HR, HX2, HM2⟩
            case measure => simp [intOf]; omega
        | false =>
          have HR : Hid (z = false) := by show _ = _; rw [← HT.out, HD.out, hok]; rfl
          obtain ⟨v3, v4, v5⟩ := okK_no hok
          clear HD HT hok
          go_wp2_with fail
          go_ret
          exact ⟨by rw [HR.out]; rfl, mv_below HX2.out HB0.out (Nat.le_refl _)⟩
    · have HR : Hid (z = true) := by show _ = _; rw [← HT.out]; exact colsB_end _ _ _ (by rw [HN.out]; omega)
      go_wp2_with fail
      go_ret
      exact ⟨by rw [HR.out]; rfl, HW.out⟩

/-- Is a schema within the limits? -/
def smallT (t : TB) : Bool := decide (t.cs.length ≤ 8) && (decide (t.rs.length ≤ 4) && decide (t.ck.length ≤ 4))
def smallS (s : SC) : Bool := decide (s.ts.length ≤ 8) && s.ts.all smallT
theorem smallT_drop (ts : List TB) (k : Nat) (h : k < ts.length) : (ts.drop k).all smallT = (smallT ts[k] && (ts.drop (k + 1)).all smallT) := by
  rw [List.drop_eq_getElem_cons h, List.all_cons]
set_option maxRecDepth 100000 in
set_option maxHeartbeats 2000000 in
theorem sSmall_any {P : Nat → Prop} (v : Value) (s : SC) (w : World) (h : Sc P w v s) : Calls Try.prog 36 #[v] w fun e w' => e = .returned (.bool (smallS s)) ∧ Below w.heap.size w w' := by
  obtain ⟨tv, rfl, hs⟩ := h
  obtain ⟨a, c, rfl, hf⟩ := hs.shape
  have hfew := hf.few
  have H := Lib.hid hs
  obtain ⟨n, hn⟩ : ∃ n, s.ts.length = n := ⟨_, rfl⟩
  obtain ⟨z, hz⟩ : ∃ z, smallS s = z := ⟨_, rfl⟩
  rw [hz]
  have HZ := Lib.hid hz
  have HN := Lib.hid hn
  rw [hn] at H hfew ⊢
  clear hs hf hn hz
  by_cases h8 : 8 < n
  · have HR : Hid (z = false) := by show _ = _; rw [← HZ.out]; unfold smallS; rw [HN.out, decide_eq_false (by omega)]; rfl
    have d1 : decide (8 < n) = true := decide_eq_true h8
    have d2 : decide (8 < (n : Int)) = true := decide_eq_true (by omega)
    clear HZ h8
    go_enter Try.func36, Try.ntmps36
    go_wp2_with fail
    go_ret
    exact ⟨by rw [HR.out]; rfl, by (repeat (first | exact Below.refl _ _ | assumption | refine Below.drew ?_ | refine Below.setCell ?_ (by first | omega | (simp only [World.size_alloc]; omega) | (simp; try omega)) _ | refine Below.alloc ?_ (by first | omega | (simp only [World.size_alloc]; omega) | (simp; try omega)) _))⟩
  · have d1 : decide (8 < n) = false := decide_eq_false h8
    have d2 : decide (8 < (n : Int)) = false := decide_eq_false (by omega)
    have HZ0 : Hid ((s.ts.drop 0).all smallT = z) := by show _ = _; rw [← HZ.out]; unfold smallS; rw [HN.out, decide_eq_true (p := n ≤ 8) (by omega)]; rfl
    obtain ⟨W1, hW1⟩ : ∃ W1, w.alloc (.cells #[.int .i64 s.ver, .slice a n c] 25) = W1 := ⟨_, rfl⟩
    have HB0 : Hid (Below w.heap.size w W1) := by rw [← hW1]; exact (Below.refl _ _).alloc (Nat.le_refl _) _
    have HW1 := Lib.hid hW1
    clear HZ hW1
    go_enter Try.func36, Try.ntmps36
    go_wp2_with fail
    rw [HW1.out]
    clear HW1 d1 d2
    go_loopw [12] (fun i wr => ∃ k : Nat, k ≤ n ∧ i = .int .i64 k ∧ Hid ((s.ts.drop k).all smallT = z) ∧ Hid (Below W1.heap.size W1 wr)) (fun i _ => n - (intOf i).toNat)
    case atStart => exact ⟨0, by omega, rfl, HZ0, Below.refl _ _⟩
    case round =>
      obtain ⟨k, hk, rfl, HT, HX⟩ := hrel
      clear HZ0
      have hzz := HX.out.size
      have HW : Hid (Below w.heap.size w wr) := HB0.out.trans (HX.out.mono HB0.out.size)
      by_cases hlt : k < n
      · have hlt' : (k : Int) < n := by omega
        have hkc : k < s.ts.length := by rw [HN.out]; exact hlt
        obtain ⟨b, off, rfl, -, hb, ca, cc, ra, rc, pa, pc, c0, c1, c2, c3, c4, -⟩ := tab_get (H.out.below HW.out) hkc
        have HD := Lib.hid (smallT_drop s.ts k hkc)
        unfold smallT at HD
        generalize s.ts[k].s = x0 at *
        generalize s.ts[k].cs.length = x1 at *
        generalize s.ts[k].key = x2 at *
        generalize s.ts[k].rs.length = x3 at *
        generalize s.ts[k].ck.length = x4 at *
        by_cases h0 : 8 < x1
        · have e0 : decide (8 < x1) = true := decide_eq_true h0
          have f0 : decide (8 < (x1 : Int)) = true := decide_eq_true (by omega)
          have HR : Hid (z = false) := by show _ = _; rw [← HT.out]; unfold smallT; rw [HD.out, decide_eq_false (p := x1 ≤ 8) (by omega)]; simp
          clear HD HT h0
          go_wp2_with fail
          go_ret
          exact ⟨by rw [HR.out]; rfl, HW.out.alloc HW.out.size _⟩
        · have e0 : decide (8 < x1) = false := decide_eq_false h0
          have f0 : decide (8 < (x1 : Int)) = false := decide_eq_false (by omega)
          by_cases h1 : 4 < x3
          · have e1 : decide (4 < x3) = true := decide_eq_true h1
            have f1 : decide (4 < (x3 : Int)) = true := decide_eq_true (by omega)
            have HR : Hid (z = false) := by show _ = _; rw [← HT.out]; unfold smallT; rw [HD.out, decide_eq_false (p := x3 ≤ 4) (by omega)]; simp
            clear HD HT h0 h1
            go_wp2_with fail
            go_ret
            exact ⟨by rw [HR.out]; rfl, HW.out.alloc HW.out.size _⟩
          · have e1 : decide (4 < x3) = false := decide_eq_false h1
            have f1 : decide (4 < (x3 : Int)) = false := decide_eq_false (by omega)
            by_cases h2 : 4 < x4
            · have e2 : decide (4 < x4) = true := decide_eq_true h2
              have f2 : decide (4 < (x4 : Int)) = true := decide_eq_true (by omega)
              have HR : Hid (z = false) := by show _ = _; rw [← HT.out]; unfold smallT; rw [HD.out, decide_eq_false (p := x4 ≤ 4) (by omega)]; simp
              clear HD HT h0 h1 h2
              go_wp2_with fail
              go_ret
              exact ⟨by rw [HR.out]; rfl, HW.out.alloc HW.out.size _⟩
            · have e2 : decide (4 < x4) = false := decide_eq_false h2
              have f2 : decide (4 < (x4 : Int)) = false := decide_eq_false (by omega)
              have HR : Hid ((s.ts.drop (k + 1)).all smallT = z) := by show _ = _; rw [← HT.out]; unfold smallT; rw [HD.out, decide_eq_true (p := x1 ≤ 8) (by omega), decide_eq_true (p := x3 ≤ 4) (by omega), decide_eq_true (p := x4 ≤ 4) (by omega)]; rfl
              clear HD HT h0 h1 h2
              go_wp2_with fail
              go_roundw
              case rel => exact ⟨k + 1, by omega, by go_num, HR, HX.out.alloc hzz _⟩
              case measure => simp [intOf]; omega
      · have HR : Hid (z = true) := by show _ = _; rw [← HT.out, List.drop_eq_nil_of_le (by rw [HN.out]; omega)]; rfl
        go_wp2_with fail
        go_ret
        exact ⟨by rw [HR.out]; rfl, HW.out⟩
end Go.Proofs.Ytjcbmeannhafjaa

/- Schemas: soundTables of the program. -/
namespace Go.Proofs.Ytjcbmeannhafjaa

open Go.RowKit Go.Deep

/-- All names of a schema are short enough for a map's keys. -/
def namesT (ts : List TB) : Prop := ∀ t ∈ ts, t.s.size ≤ maxLen ∧ namesOk t.cs

set_option maxRecDepth 100000 in
set_option maxHeartbeats 4000000 in
theorem sSoundTables_any {P : Nat → Prop} (v : Value) (ts : List TB) (w : World) (h : SlR tabK P w v ts) (hnm : namesT ts) : Calls Try.prog 61 #[v] w fun e w' => e = .returned (.bool (tabsB [] ts)) ∧ Below w.heap.size w w' := by
  obtain ⟨a, c, rfl, hf⟩ := h.shape
  have hfew := hf.few
  have H := Lib.hid h
  have HNM := Lib.hid hnm
  obtain ⟨n, hn⟩ : ∃ n, ts.length = n := ⟨_, rfl⟩
  obtain ⟨z, hz⟩ : ∃ z, tabsB [] (ts.drop 0) = z := ⟨_, rfl⟩
  rw [show tabsB [] ts = tabsB [] (ts.drop 0) from rfl, hz]
  have HZ := Lib.hid hz
  have HN := Lib.hid hn
  rw [hn] at H hfew ⊢
  clear h hnm hf hn hz
  obtain ⟨W1, hW1⟩ : ∃ W1, w.alloc (.map #[] 0) = W1 := ⟨_, rfl⟩
  have HB0 : Hid (Below w.heap.size w W1) := by rw [← hW1]; exact (Below.refl _ _).alloc (Nat.le_refl _) _
  have hs1 : w.heap.size < W1.heap.size := by rw [← hW1]; simp
  have HM0 : Hid (MapS W1 w.heap.size []) := by rw [← hW1]; exact MapS.made w
  have HW1 := Lib.hid hW1
  have hmk : ∀ u : World, (Instr.makeMap 125 none).run Try.prog u = .ok (.map (some u.heap.size)) (u.alloc (.map #[] 0)) := fun u => rfl
  clear hW1
  go_enter Try.func61, Try.ntmps61
  go_wp2_with fail
  rw [HW1.out]
  clear HW1 hmk
  go_loopw [9] (fun i wr => ∃ (k : Nat) (S : List ByteArray), k ≤ n ∧ i = .int .i64 k ∧ Hid (S.length = k) ∧ Hid (tabsB S (ts.drop k) = z) ∧ Hid (Mv w.heap.size W1 wr) ∧ Hid (MapS wr w.heap.size S)) (fun i _ => n - (intOf i).toNat)
  case atStart => exact ⟨0, [], by omega, rfl, rfl, HZ, Mv.refl _ _, HM0⟩
  case round =>
    obtain ⟨k, S, hk, rfl, HL, HT, HX, HM⟩ := hrel
    clear HZ HM0
    have hzz := HX.out.size
    have HW : Hid (Below w.heap.size w wr) := mv_below HX.out HB0.out (Nat.le_refl _)
    have hwr : w.heap.size < wr.heap.size := by omega
    by_cases hlt : k < n
    · have hlt' : (k : Int) < n := by omega
      have hkc : k < ts.length := by rw [HN.out]; exact hlt
      obtain ⟨b, off, rfl, -, hb, ca, cc, ra, rc, pa, pc, c0, c1, c2, c3, c4, -⟩ := tab_get (H.out.below HW.out) hkc
      obtain ⟨b', off', e', hpb, hbw, ca', cc', ra', rc', pa', pc', -, c1', -, -, -, htb⟩ := tab_get H.out hkc
      have HD := Lib.hid (tabsB_drop S ts k hkc)
      have hsz := HNM.out _ (List.getElem_mem hkc)
      have hce : Value.slice ca' ts[k].cs.length cc' = Value.slice ca ts[k].cs.length cc := by
        simp only [Option.some.injEq, Addr.mk.injEq, and_true] at e'
        obtain ⟨rfl, rfl⟩ := e'
        have := (HW.out.cell (p := ⟨b, off + k * 5 + 1, none⟩) hbw).trans c1'
        rw [c1] at this
        simpa using this.symm
      have HCC : Hid (∀ W, Below w.heap.size w W → Calls Try.prog 85 #[.slice ca ts[k].cs.length cc] W fun e w' => e = .returned (.bool (colsB [] ts[k].cs)) ∧ Below W.heap.size W w') := fun W hb => by
        have h := htb.cols.below hb
        rw [hce] at h
        exact sSoundColumns_any _ _ W h hsz.2
      have HNN : Hid (∀ O, Calls Try.prog 84 #[.map (some w.heap.size), .string ts[k].s] (wr.alloc O) (NewNm w.heap.size S ts[k].s (wr.alloc O))) := fun O => sNewName_any w.heap.size S ts[k].s (wr.alloc O) (HM.out.below ((Below.refl _ _).alloc (Nat.le_refl _) O)) hsz.1 (by rw [HL.out]; unfold maxLen; omega)
      unfold NewNm at HNN
      obtain ⟨y, hy⟩ : ∃ y, (nameB ts[k].s && !memB ts[k].s S) = y := ⟨_, rfl⟩
      obtain ⟨y2, hy2⟩ : ∃ y, colsB [] ts[k].cs = y := ⟨_, rfl⟩
      rw [hy] at HNN
      rw [hy2] at HCC
      rw [hy, hy2] at HD
      clear hy hy2 hsz e' hpb hbw c1' htb hce
      generalize ts[k].s = x0 at *
      generalize ts[k].cs.length = x1 at *
      generalize ts[k].key = x2 at *
      generalize ts[k].rs.length = x3 at *
      generalize ts[k].ck.length = x4 at *
      obtain ⟨wb, hwb⟩ : ∃ wb, wr.alloc (.cells #[.string x0, .slice ca x1 cc, .int .i64 x2, .slice ra x3 rc, .slice pa x4 pc] 40) = wb := ⟨_, rfl⟩
      have hbs : wb.heap.size = wr.heap.size + 1 := by rw [← hwb]; simp
      have HXB : Hid (Mv w.heap.size W1 wb) := by rw [← hwb]; exact HX.out.alloc _
      have q1 : wb.cell? ⟨wr.heap.size, 1, none⟩ = some (.slice ca x1 cc) := by subst hwb; go_simp
      have q2 : wb.cell? ⟨wr.heap.size, 2, none⟩ = some (.int .i64 x2) := by subst hwb; go_simp
      have HQ : Hid (∀ W, Mv w.heap.size wb W → W.cell? ⟨wr.heap.size, 1, none⟩ = some (.slice ca x1 cc) ∧ W.cell? ⟨wr.heap.size, 2, none⟩ = some (.int .i64 x2)) := fun W hm => ⟨(hm.cell (p := ⟨wr.heap.size, 1, none⟩) (show wr.heap.size < _ by omega) (show wr.heap.size ≠ _ by omega)).trans q1, (hm.cell (p := ⟨wr.heap.size, 2, none⟩) (show wr.heap.size < _ by omega) (show wr.heap.size ≠ _ by omega)).trans q2⟩
      have HWB := Lib.hid hwb
      clear q1 q2 hwb
      go_wp2_with fail
      refine (HNN.out _).mono ?_
      rintro e w2 ⟨rfl, hm, hms⟩
      rw [HWB.out] at hm
      obtain ⟨q1, q2⟩ := HQ.out _ hm
      have HX2 := Lib.hid (HXB.out.trans hm)
      have HMX := Lib.hid hm
      have HM2 := Lib.hid hms
      clear hm hms HNN
      cases y with
      | false =>
        have HR : Hid (z = false) := by show _ = _; rw [← HT.out, HD.out]; rfl
        clear HD HT
        go_wp2_with fail
        go_ret
        exact ⟨by rw [HR.out]; rfl, mv_below HX2.out HB0.out (Nat.le_refl _)⟩
      | true =>
        rw [if_pos rfl] at HM2
        have HB2 : Hid (Below w.heap.size w w2) := mv_below HX2.out HB0.out (Nat.le_refl _)
        have HC2 := Lib.hid (HCC.out _ HB2.out)
        have hz2 := HX2.out.size
        clear HCC
        go_wp2_with fail
        refine HC2.out.mono ?_
        rintro e w3 ⟨rfl, hb3⟩
        obtain ⟨q1, q2⟩ := HQ.out _ (HMX.out.trans (Mv.of_below hb3))
        have HX3 := Lib.hid (HX2.out.trans (Mv.of_below hb3))
        have HM3 := Lib.hid (HM2.out.below hb3)
        clear hb3 HC2
        cases y2 with
        | false =>
          have HR : Hid (z = false) := by show _ = _; rw [← HT.out, HD.out]; rfl
          clear HD HT
          go_wp2_with fail
          go_ret
          exact ⟨by rw [HR.out]; rfl, mv_below HX3.out HB0.out (Nat.le_refl _)⟩
        | true =>
          by_cases h1 : x2 < 1
          · have HR : Hid (z = false) := by show _ = _; rw [← HT.out, HD.out, decide_eq_false (p := 1 ≤ x2) (by omega)]; rfl
            have d1 : decide (x2 < 1) = true := decide_eq_true h1
            clear HD HT h1
            go_wp2_with fail
            go_ret
            exact ⟨by rw [HR.out]; rfl, mv_below HX3.out HB0.out (Nat.le_refl _)⟩
          · have d1 : decide (x2 < 1) = false := decide_eq_false h1
            by_cases h2 : (x1 : Int) < x2
            · have HR : Hid (z = false) := by show _ = _; rw [← HT.out, HD.out, decide_eq_false (p := x2 ≤ x1) (by omega)]; simp
              have d2 : decide ((x1 : Int) < x2) = true := decide_eq_true h2
              clear HD HT h1 h2
              go_wp2_with fail
              go_ret
              exact ⟨by rw [HR.out]; rfl, mv_below HX3.out HB0.out (Nat.le_refl _)⟩
            · have HR : Hid (tabsB (x0 :: S) (ts.drop (k + 1)) = z) := by show _ = _; rw [← HT.out, HD.out, decide_eq_true (p := 1 ≤ x2) (by omega), decide_eq_true (p := x2 ≤ x1) (by omega)]; rfl
              have d2 : decide ((x1 : Int) < x2) = false := decide_eq_false h2
              clear HD HT h1 h2
              go_wp2_with fail
              go_roundw
              case rel => exact ⟨k + 1, x0 :: S, by omega, by go_num, by show _ = _; rw [List.length_cons, HL.out], HR, HX3, HM3⟩
              case measure => simp [intOf]; omega
    · have HR : Hid (z = true) := by show _ = _; rw [← HT.out]; exact tabsB_end _ _ _ (by rw [HN.out]; omega)
      go_wp2_with fail
      go_ret
      exact ⟨by rw [HR.out]; rfl, HW.out⟩
end Go.Proofs.Ytjcbmeannhafjaa
