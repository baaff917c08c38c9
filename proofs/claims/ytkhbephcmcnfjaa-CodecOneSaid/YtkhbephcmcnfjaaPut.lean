/- Bytes that are appended: LEB128; a buffer of the call's own, or a full slice that came in. -/
import Derived.Test.YtkhbephcmcnfjaaLeaf
import Derived.Below
import Derived.ArgAppend
import Derived.Laws.AppendOwnNone
import Derived.Lib.AppendStr
import Derived.Deep.LoopGhost
import Derived.Deep.OwnRows
namespace Go.Proofs.Ytkhbephcmcnfjaa
open Go.RowKit Go.Deep

/-- The number n in groups of seven bits. -/
def leb (n : Nat) : List UInt8 := if n < 128 then [UInt8.ofNat n] else UInt8.ofNat (n % 128 + 128) :: leb (n / 128)
termination_by n
decreasing_by omega

theorem leb_small {n : Nat} (h : n < 128) : leb n = [UInt8.ofNat n] := by rw [leb, if_pos h]
theorem leb_more {n : Nat} (h : ¬ n < 128) : leb n = UInt8.ofNat (n % 128 + 128) :: leb (n / 128) := by rw [leb, if_neg h]
theorem leb_ne (n : Nat) : leb n ≠ [] := by
  by_cases h : n < 128
  · rw [leb_small h]; simp
  · rw [leb_more h]; simp
theorem leb_len : ∀ (k n : Nat), n < 128 ^ k → 0 < k → (leb n).length ≤ k
  | 0, _, _, h => by omega
  | 1, n, h, _ => by rw [leb_small (by simpa using h)]; simp
  | k + 2, n, h, _ => by
    by_cases h1 : n < 128
    · rw [leb_small h1]; simp
    · rw [leb_more h1]
      have := leb_len (k + 1) (n / 128) (by rw [Nat.pow_succ] at h; exact Nat.div_lt_of_lt_mul (by rw [Nat.mul_comm]; exact h)) (by omega)
      simp only [List.length_cons]; omega
theorem leb_len10 (n : Nat) (h : n ≤ 18446744073709551615) : (leb n).length ≤ 10 := leb_len 10 n (by omega) (by omega)

def bts (L : List UInt8) : List Value := L.map fun b => .int .u8 (b.toNat : Int)
theorem bts_len (L : List UInt8) : (bts L).length = L.length := by simp [bts]
theorem bts_app (L N : List UInt8) : bts (L ++ N) = bts L ++ bts N := by simp [bts]
theorem bts_one (L : List UInt8) : ∀ u ∈ bts L, u.oneCell' = true := fun u hu => by
  obtain ⟨x, _, rfl⟩ := List.mem_map.1 hu
  rfl

/-- A slice without room. -/
def Full (w : World) (v : Value) (xs : List Value) : Prop :=
  ∃ a, v = .slice a xs.length xs.length ∧ (a = none → xs.length = 0) ∧ ∀ p, a = some p → ∀ j u, xs[j]? = some u → w.cell? (p.add j) = some u
def Own (B : Nat) (w : World) (v : Value) (L : List UInt8) : Prop := w.ownsRow B 5 1 v L.length (bts L)
def Buf (B : Nat) (w : World) (v : Value) (L : List UInt8) : Prop := Own B w v L ∨ Full w v (bts L)
theorem Buf.alloc {B : Nat} {w : World} {v : Value} {L : List UInt8} (hb : Buf B w v L) (o : Obj) : Buf B (w.alloc o) v L := by
  rcases hb with hb | ⟨a', e, hnn, hcs⟩
  · exact .inl (World.ownsRow.alloc hb _)
  · exact .inr ⟨a', e, hnn, fun p hp j u hj => cell_later ((Below.refl _ _).alloc (Nat.le_refl _) o) (hcs p hp j u hj)⟩

/-- Blocks that hold no bytes stay as they are. -/
def Keeps (w w' : World) : Prop := ∀ (k : Nat) (O : Obj), w.heap[k]? = some O → (∀ cur fr, O ≠ .cells cur 5 fr) → w'.heap[k]? = some O
theorem Keeps.refl (w : World) : Keeps w w := fun _ _ h _ => h
theorem Keeps.trans {a b c : World} (h : Keeps a b) (k : Keeps b c) : Keeps a c := fun j O e n => k j O (h j O e n) n
theorem Keeps.alloc (w : World) (o : Obj) : Keeps w (w.alloc o) := fun k O h _ => by
  rw [Below.heap_alloc w o k (Array.getElem?_eq_some_iff.1 h).1]; exact h
theorem Keeps.below {w w' : World} (h : Below w.heap.size w w') : Keeps w w' := fun k O e _ => by rw [h.block k (Array.getElem?_eq_some_iff.1 e).1]; exact e
theorem Keeps.grown {w w' : World} {r : Option Nat} (h : w.grownBy w' r) (hr : ∀ k, r = some k → ∃ cur fr, w.heap[k]? = some (.cells cur 5 fr)) : Keeps w w' := fun k O e n => by
  rw [h.block k (Array.getElem?_eq_some_iff.1 e).1 (fun h2 => by
    obtain ⟨cur, fr, h3⟩ := hr k h2.symm
    rw [e] at h3
    exact n cur fr (Option.some.inj h3))]
  exact e
theorem Own.block {B : Nat} {w : World} {v : Value} {L : List UInt8} (h : Own B w v L) : ∀ k, v.ownBlock = some k → ∃ cur fr, w.heap[k]? = some (.cells cur 5 fr) := fun k e => by
  rcases h.2 with ⟨rfl, _⟩ | ⟨g, cap, cur, rfl, _, hg, _⟩
  · simp [Value.ownBlock] at e
  · simp only [Value.ownBlock, Option.some.injEq] at e
    subst e
    exact ⟨_, _, hg⟩

section
variable {w : World} {ops : Array Oper} {rest : List Oper} {o : Oper} {a : Act} {Q : Exit → Act → World → Prop}
theorem wpList_append_buf (hgd : o.guard = none) (s x : Operand)
    (ho : o.op = .call { callee := .builtin .append, args := #[s, x], argTypes := #[22, 22] })
    (i : TypeInfo) (hi : Try.prog.info? 5 = some i) (hz : i.zero = some (.int .u8 0)) (hsize : i.size = 1) (hby : i.bytes = 1)
    (B : Nat) (v : Value) (L : List UInt8) (hb : Buf B w v L) (hs : a.eval s = v) (ad : Addr) (m c : Nat) (N : List UInt8) (hx : a.eval x = .slice (some ad) m c) (hm : N.length = m) (hm0 : 0 < m)
    (hnews : ∀ j u, (bts N)[j]? = some u → w.cell? (ad.add j) = some u) (hlen : L.length + m ≤ 140737488355328) (hB : B ≤ w.heap.size)
    (h : ∀ v' w', Own B w' v' (L ++ N) → Below B w w' → Keeps w w' → wpList Try.prog ops Q rest (a.put o.dst v') w') : wpList Try.prog ops Q (o :: rest) a w := by
  have key : ∀ v' w', w'.ownsRow B 5 1 v' (L.length + m) (bts L ++ bts N) → Below B w w' → Keeps w w' → wpList Try.prog ops Q rest (a.put o.dst v') w' := fun v' w' h1 h2 h3 => by
    refine h v' w' ?_ h2 h3
    unfold Own
    rw [bts_app, List.length_append, hm]
    exact h1
  rcases hb with hb | ⟨a', rfl, hnn, hcs⟩
  · exact wpList_append_own w hgd s x 22 ho B 5 i (.int .u8 0) 1 1 Try.underlying22 hi hz hsize hby rfl (by decide) v L.length (bts L) hs hb ad m c (bts N) hx (by rw [bts_len]; omega) hnews (bts_one N) (by unfold maxLen; omega) (by omega) hB
      (fun v' w' a1 a2 _ => key v' w' a1 ((Below.refl _ _).grown a2 hB (fun k hk => (World.ownsRow.lt hb k hk).1)) (Keeps.grown a2 (Own.block hb)))
  · rw [bts_len] at hs
    refine wpList_append_grows w hgd s x 22 ho 5 i (.int .u8 0) 1 1 Try.underlying22 hi hz hsize hby rfl (by decide) a' L.length L.length (bts L) hs (fun h => by have := hnn h; rw [bts_len] at this; exact ⟨this, this⟩) (by rw [bts_len]; omega) (fun b e j u hj => hcs b e j u hj) ad m c (bts N) hx (by rw [bts_len]; omega) hnews (bts_one N) (by omega) (by unfold maxLen; omega) (by omega)
      (fun v' w' a1 a2 => key v' w' ?_ ((Below.refl _ _).grown a2 hB (fun k hk => by simp at hk)) (Keeps.grown a2 (fun k hk => by simp at hk)))
    refine ⟨a1.1, ?_⟩
    rcases a1.2 with h | ⟨g, cap, cur, e, hg, r⟩
    · exact .inl h
    · exact .inr ⟨g, cap, cur, e, by omega, r⟩

/-- One byte. -/
theorem wpList_append_byte {w0 : World} (hgd : o.guard = none) (s x : Operand)
    (ho : o.op = .call { callee := .builtin .append, args := #[s, x], argTypes := #[22, 22] })
    (i : TypeInfo) (hi : Try.prog.info? 5 = some i) (hz : i.zero = some (.int .u8 0)) (hsize : i.size = 1) (hby : i.bytes = 1)
    (B : Nat) (v : Value) (L : List UInt8) (hb : Buf B w0 v L) (hs : a.eval s = v) (b : UInt8) (c : Int) (hc : c = (b.toNat : Int)) (ad : Addr) (hx : a.eval x = .slice (some ad) 1 1) (had : ad = ⟨w0.heap.size, 0, none⟩) (hlen : L.length + 1 ≤ 140737488355328) (hB : B ≤ w0.heap.size)
    (h : ∀ v' w', Own B w' v' (L ++ [b]) → Below B w0 w' → Keeps w0 w' → wpList Try.prog ops Q rest (a.put o.dst v') w') : wpList Try.prog ops Q (o :: rest) a (w0.alloc (.cells #[.int .u8 c] 5)) := by
  subst hc had
  have hbl : Below w0.heap.size w0 (w0.alloc (.cells #[.int .u8 (b.toNat : Int)] 5)) := (Below.refl _ _).alloc (Nat.le_refl _) _
  have hb' := Buf.alloc hb (.cells #[.int .u8 (b.toNat : Int)] 5)
  refine wpList_append_buf hgd s x ho i hi hz hsize hby B v L hb' hs ⟨w0.heap.size, 0, none⟩ 1 1 [b] hx rfl (by decide) (fun j u hj => ?_) hlen (Nat.le_trans hB hbl.size) (fun v' w' h1 h2 h3 => h v' w' h1 ((hbl.mono hB).trans h2) ((Keeps.alloc _ _).trans h3))
  match j, hj with
  | 0, hj => simp [bts] at hj; subst hj; simp [Addr.add]
  | (j + 1), hj => simp [bts] at hj

def txt (s : ByteArray) : List UInt8 := s.data.toList
theorem txt_len (s : ByteArray) : (txt s).length = s.size := by simp [txt]
theorem str_bts (s : ByteArray) : Lib.strCells s = bts (txt s) := rfl

/-- A text. -/
theorem wpList_append_txt (hgd : o.guard = none) (sl x : Operand)
    (ho : o.op = .call { callee := .builtin .append, args := #[sl, x], argTypes := #[22, 9] })
    (i : TypeInfo) (hi : Try.prog.info? 5 = some i) (hz : i.zero = some (.int .u8 0)) (hsize : i.size = 1) (hby : i.bytes = 1)
    (B : Nat) (v : Value) (L : List UInt8) (hb : Own B w v L) (hs : a.eval sl = v) (s : ByteArray) (hx : a.eval x = .string s) (hlen : L.length + s.size ≤ 140737488355328) (hB : B ≤ w.heap.size)
    (h : ∀ v' w', Own B w' v' (L ++ txt s) → Below B w w' → Keeps w w' → wpList Try.prog ops Q rest (a.put o.dst v') w') : wpList Try.prog ops Q (o :: rest) a w := by
  refine Lib.wpList_append_own_string w hgd sl x 22 9 ho B 5 i Try.underlying22 Try.underlying9 hi hz hsize hby v L.length (bts L) hs hb s hx (by unfold maxLen; omega) hlen hB (fun v' w' h1 h2 _ => h v' w' ?_ ((Below.refl _ _).grown h2 hB (fun k hk => (World.ownsRow.lt hb k hk).1)) (Keeps.grown h2 (Own.block hb)))
  unfold Own
  rw [str_bts, ← bts_app] at h1
  rw [List.length_append, txt_len]
  exact h1

/-- The same at a step of a region that draws its order. -/
theorem step_append_txt {K : Act → World → Prop} {E : Prop} (hgd : o.guard = none) (sl x : Operand)
    (ho : o.op = .call { callee := .builtin .append, args := #[sl, x], argTypes := #[22, 9] })
    (i : TypeInfo) (hi : Try.prog.info? 5 = some i) (hz : i.zero = some (.int .u8 0)) (hsize : i.size = 1) (hby : i.bytes = 1)
    (B : Nat) (v : Value) (L : List UInt8) (hb : Own B w v L) (hs : a.eval sl = v) (s : ByteArray) (hx : a.eval x = .string s) (hlen : L.length + s.size ≤ 140737488355328) (hB : B ≤ w.heap.size)
    (h : ∀ v' w', Own B w' v' (L ++ txt s) → Below B w w' → Keeps w w' → K (a.put o.dst v') w') : if Region.wanted o (yielded ops a.tmps) = true then Oper.wp Try.prog o a w K Q else E := by
  have hw : Region.wanted o (yielded ops a.tmps) = true := by simp [Region.wanted, hgd]
  rw [if_pos hw]
  obtain ⟨v', w', hr, h1, h2, _⟩ := Lib.run_append_own_string (P := Try.prog) w B 22 9 o.type 5 i Try.underlying22 Try.underlying9 hi hz hsize hby v L.length (bts L) hb s (by unfold maxLen; omega) hlen hB
  unfold Oper.wp execOp
  simp only [ho, resolve, invoke, builtin, Sem.run_bind, Sem.run_pure, Result.andThen_ok, List.map_toArray, List.map_cons, List.map_nil, hs, hx, hr]
  refine h v' w' ?_ ((Below.refl _ _).grown h2 hB (fun k hk => (World.ownsRow.lt hb k hk).1)) (Keeps.grown h2 (Own.block hb))
  unfold Own
  rw [str_bts, ← bts_app] at h1
  rw [List.length_append, txt_len]
  exact h1
theorem Keeps.drew {w w' : World} (h : Keeps w w') : Keeps w w'.drew := h
theorem Own.drew {B : Nat} {w : World} {v : Value} {L : List UInt8} (h : Own B w v L) : Own B w.drew v L := World.ownsRow.drew h

end
end Go.Proofs.Ytkhbephcmcnfjaa
