/- Walks of the functions that append a value. -/
import Derived.Test.YtkhbephcmcnfjaaPutTexts
import Derived.Test.YtkhbephcmcnfjaaFirst
namespace Go.Proofs.Ytkhbephcmcnfjaa
open Go.RowKit Go.Deep

/-- The encoding of a value. -/
def encV (v : V) : List UInt8 := UInt8.ofNat v.k.toNat :: (if v.k = 3 then [UInt8.ofNat v.n.toNat] else if v.k = 4 then leb (zz v.n) else if v.k = 5 then leb v.s.size ++ txt v.s else [])

theorem vld_cases (k n : Int) (s : ByteArray) : vldB k n s = true ↔ (((k = 1 ∨ k = 2) ∧ n = 0 ∧ s = ⟨#[]⟩) ∨ (k = 3 ∧ (n = 0 ∨ n = 1) ∧ s = ⟨#[]⟩) ∨ (k = 4 ∧ s = ⟨#[]⟩) ∨ (k = 5 ∧ n = 0 ∧ s.size ≤ 64)) := by
  unfold vldB
  simp only [decide_eq_true_eq, empty_iff]

theorem struct_kept {w w1 : World} {k n : Int} {s : ByteArray} (hk : Keeps (w.alloc (.cells #[.int .i64 k, .int .i64 n, .string s] 42)) w1) :
    w1.cell? ⟨w.heap.size, 0, none⟩ = some (.int .i64 k) ∧ w1.cell? ⟨w.heap.size, 1, none⟩ = some (.int .i64 n) ∧ w1.cell? ⟨w.heap.size, 2, none⟩ = some (.string s) := by
  have hh := heap_alloc_new w (.cells #[.int .i64 k, .int .i64 n, .string s] 42)
  have h := hk w.heap.size _ hh (fun cur fr e => by simp at e)
  have hc : ∀ i, w1.cell? ⟨w.heap.size, i, none⟩ = (#[.int .i64 k, .int .i64 n, .string s] : Array Value)[i]? := fun i => by
    rw [World.cell?_of_block (w := w.alloc (.cells #[.int .i64 k, .int .i64 n, .string s] 42)) (a := ⟨w.heap.size, i, none⟩) (h.trans hh.symm)]
    exact World.cell?_alloc_mark w _ _ _ i
  exact ⟨hc 0, hc 1, hc 2⟩

set_option maxRecDepth 100000 in
set_option maxHeartbeats 1000000 in
theorem kValue_any (B : Nat) (b : Value) (L : List UInt8) (k n : Int) (s : ByteArray) (w : World) (hv : vldB k n s = true) (hn : -9223372036854775808 ≤ n) (hn' : n ≤ 9223372036854775807) (hb : Buf B w b L) (hl : L.length ≤ 4398046511103) (hB : B ≤ w.heap.size) :
    Calls Try.prog 70 #[b, .agg #[.int .i64 k, .int .i64 n, .string s]] w (OutPost B w (L ++ encV ⟨k, n, s⟩)) := by
  have hinfo : (Try.prog.info? 5).map (fun i => (i.zero, i.size, i.bytes)) = some (some (.int .u8 0), 1, 1) := by kernel_rfl
  obtain ⟨i0, hi, hz0, hz1, hz2⟩ := info_parts hinfo
  have HI := Lib.hid hi
  have HZ0 := Lib.hid hz0
  have HZ1 := Lib.hid hz1
  have HZ2 := Lib.hid hz2
  have hb2 : Below B w (w.alloc (.cells #[.int .i64 k, .int .i64 n, .string s] 42)) := (Below.refl _ _).alloc hB _
  have HBB := Lib.hid hb2
  have HKB := Lib.hid (Keeps.alloc w (.cells #[.int .i64 k, .int .i64 n, .string s] 42))
  have HBF : Hid (Buf B (w.alloc (.cells #[.int .i64 k, .int .i64 n, .string s] 42)) b L) := Buf.alloc hb _
  have hPl : L.length + 1 ≤ 140737488355328 := by omega
  clear hi hz0 hz1 hz2 hinfo hb hb2
  rcases (vld_cases k n s).1 hv with ⟨hk, rfl, rfl⟩ | ⟨rfl, hn01, rfl⟩ | ⟨rfl, rfl⟩ | ⟨rfl, rfl, hs⟩
  · rcases hk with rfl | rfl
    · clear hv
      go_enter Try.func70, Try.ntmps70
      go_wp2_with (at_builtin; (refine wpList_append_byte rfl _ _ (by rfl) i0 HI.out HZ0.out HZ1.out HZ2.out B _ L HBF.out (by rfl) (1 : UInt8) _ (by rfl) _ (by rfl) (by first | rfl | simp) hPl (by first | (simp; omega) | omega) ?_); intro v1 w1 ho1 hb1 hk1; obtain ⟨p0, p1, p2⟩ := struct_kept hk1; have hs1 : w.heap.size + 1 ≤ w1.heap.size := (by have := hb1.size; simpa using this); have HO1 := Lib.hid ho1; have HB1 := Lib.hid hb1; have HK1 := Lib.hid hk1; clear ho1 hb1 hk1)
      go_ret
      exact ⟨_, rfl, HO1.out, HBB.out.trans HB1.out, HKB.out.trans HK1.out⟩
    · clear hv
      go_enter Try.func70, Try.ntmps70
      go_wp2_with (at_builtin; (refine wpList_append_byte rfl _ _ (by rfl) i0 HI.out HZ0.out HZ1.out HZ2.out B _ L HBF.out (by rfl) (2 : UInt8) _ (by rfl) _ (by rfl) (by first | rfl | simp) hPl (by first | (simp; omega) | omega) ?_); intro v1 w1 ho1 hb1 hk1; obtain ⟨p0, p1, p2⟩ := struct_kept hk1; have hs1 : w.heap.size + 1 ≤ w1.heap.size := (by have := hb1.size; simpa using this); have HO1 := Lib.hid ho1; have HB1 := Lib.hid hb1; have HK1 := Lib.hid hk1; clear ho1 hb1 hk1)
      go_ret
      exact ⟨_, rfl, HO1.out, HBB.out.trans HB1.out, HKB.out.trans HK1.out⟩
  · clear hv
    have HC : Hid (n = ((UInt8.ofNat n.toNat).toNat : Int)) := by show _ = _; rcases hn01 with rfl | rfl <;> rfl
    have hm : n % 256 = n := by omega
    have HE : Hid (L ++ encV ⟨3, n, ⟨#[]⟩⟩ = L ++ [(3 : UInt8)] ++ [UInt8.ofNat n.toNat]) := by simp [Hid, encV]
    clear hn01
    go_enter Try.func70, Try.ntmps70
    go_wp2_with (first | (at_builtin; (refine wpList_append_byte rfl _ _ (by rfl) i0 HI.out HZ0.out HZ1.out HZ2.out B _ L HBF.out (by rfl) (3 : UInt8) _ (by rfl) _ (by rfl) (by first | rfl | simp) hPl (by first | (simp; omega) | omega) ?_); intro v1 w1 ho1 hb1 hk1; obtain ⟨p0, p1, p2⟩ := struct_kept hk1; have hs1 : w.heap.size + 1 ≤ w1.heap.size := (by have := hb1.size; simpa using this); have HO1 := Lib.hid ho1; have HB1 := Lib.hid hb1; have HK1 := Lib.hid hk1; clear ho1 hb1 hk1) | (at_builtin; (refine wpList_append_byte rfl _ _ (by rfl) i0 HI.out HZ0.out HZ1.out HZ2.out B _ _ (.inl HO1.out) (by rfl) (UInt8.ofNat n.toNat) _ HC.out _ (by rfl) (by first | rfl | simp) (by rw [List.length_append, List.length_singleton]; omega) (by omega) ?_); intro v2 w2 ho2 hb2 hk2; have HO2 := Lib.hid ho2; have HB2 := Lib.hid hb2; have HK2 := Lib.hid hk2; clear ho2 hb2 hk2))
    go_ret
    exact ⟨_, rfl, by rw [HE.out]; exact HO2.out, (HBB.out.trans HB1.out).trans HB2.out, (HKB.out.trans HK1.out).trans HK2.out⟩
  · clear hv
    have HE : Hid (L ++ encV ⟨4, n, ⟨#[]⟩⟩ = L ++ [(4 : UInt8)] ++ leb (zz n)) := by simp [Hid, encV]
    go_enter Try.func70, Try.ntmps70
    go_wp2_with (at_builtin; (refine wpList_append_byte rfl _ _ (by rfl) i0 HI.out HZ0.out HZ1.out HZ2.out B _ L HBF.out (by rfl) (4 : UInt8) _ (by rfl) _ (by rfl) (by first | rfl | simp) hPl (by first | (simp; omega) | omega) ?_); intro v1 w1 ho1 hb1 hk1; obtain ⟨p0, p1, p2⟩ := struct_kept hk1; have hs1 : w.heap.size + 1 ≤ w1.heap.size := (by have := hb1.size; simpa using this); have HO1 := Lib.hid ho1; have HB1 := Lib.hid hb1; have HK1 := Lib.hid hk1; clear ho1 hb1 hk1)
    have HC := Lib.hid (kInt_any B v1 (L ++ [4]) n w1 (.inl HO1.out) hn hn' (by simp; omega) (by omega))
    refine HC.out.mono ?_
    rintro e w2 ⟨v2, rfl, ho, hb, hk⟩
    have HO2 := Lib.hid ho
    have HB2 := Lib.hid hb
    have HK2 := Lib.hid hk
    clear ho hb hk HC
    go_wp2_with fail
    go_ret
    exact ⟨_, rfl, by rw [HE.out]; exact HO2.out, (HBB.out.trans HB1.out).trans HB2.out, (HKB.out.trans HK1.out).trans HK2.out⟩
  · clear hv
    have HE : Hid (L ++ encV ⟨5, 0, s⟩ = L ++ [(5 : UInt8)] ++ (leb s.size ++ txt s)) := by simp [Hid, encV]
    go_enter Try.func70, Try.ntmps70
    go_wp2_with (at_builtin; (refine wpList_append_byte rfl _ _ (by rfl) i0 HI.out HZ0.out HZ1.out HZ2.out B _ L HBF.out (by rfl) (5 : UInt8) _ (by rfl) _ (by rfl) (by first | rfl | simp) hPl (by first | (simp; omega) | omega) ?_); intro v1 w1 ho1 hb1 hk1; obtain ⟨p0, p1, p2⟩ := struct_kept hk1; have hs1 : w.heap.size + 1 ≤ w1.heap.size := (by have := hb1.size; simpa using this); have HO1 := Lib.hid ho1; have HB1 := Lib.hid hb1; have HK1 := Lib.hid hk1; clear ho1 hb1 hk1)
    have HC := Lib.hid (kText_any B v1 (L ++ [5]) s w1 (.inl HO1.out) (by simp; omega) (by simp; omega) (by omega))
    refine HC.out.mono ?_
    rintro e w2 ⟨v2, rfl, ho, hb, hk⟩
    have HO2 := Lib.hid ho
    have HB2 := Lib.hid hb
    have HK2 := Lib.hid hk
    clear ho hb hk HC
    go_wp2_with fail
    go_ret
    exact ⟨_, rfl, by rw [HE.out]; exact HO2.out, (HBB.out.trans HB1.out).trans HB2.out, (HKB.out.trans HK1.out).trans HK2.out⟩
set_option maxRecDepth 100000 in
set_option maxHeartbeats 1000000 in
theorem rValue_any (B : Nat) (b : Value) (L : List UInt8) (k n : Int) (s : ByteArray) (w : World) (hv : vldB k n s = true) (hn : -9223372036854775808 ≤ n) (hn' : n ≤ 9223372036854775807) (hb : Buf B w b L) (hl : L.length ≤ 4398046511103) (hB : B ≤ w.heap.size) :
    Calls Try.prog 72 #[b, .agg #[.int .i64 k, .int .i64 n, .string s]] w (OutPost B w (L ++ encV ⟨k, n, s⟩)) := by
  have hinfo : (Try.prog.info? 5).map (fun i => (i.zero, i.size, i.bytes)) = some (some (.int .u8 0), 1, 1) := by kernel_rfl
  obtain ⟨i0, hi, hz0, hz1, hz2⟩ := info_parts hinfo
  have HI := Lib.hid hi
  have HZ0 := Lib.hid hz0
  have HZ1 := Lib.hid hz1
  have HZ2 := Lib.hid hz2
  have hb2 : Below B w (w.alloc (.cells #[.int .i64 k, .int .i64 n, .string s] 42)) := (Below.refl _ _).alloc hB _
  have HBB := Lib.hid hb2
  have HKB := Lib.hid (Keeps.alloc w (.cells #[.int .i64 k, .int .i64 n, .string s] 42))
  have HBF : Hid (Buf B (w.alloc (.cells #[.int .i64 k, .int .i64 n, .string s] 42)) b L) := Buf.alloc hb _
  have hPl : L.length + 1 ≤ 140737488355328 := by omega
  clear hi hz0 hz1 hz2 hinfo hb hb2
  rcases (vld_cases k n s).1 hv with ⟨hk, rfl, rfl⟩ | ⟨rfl, hn01, rfl⟩ | ⟨rfl, rfl⟩ | ⟨rfl, rfl, hs⟩
  · rcases hk with rfl | rfl
    · clear hv
      go_enter Try.func72, Try.ntmps72
      go_wp2_with (at_builtin; (refine wpList_append_byte rfl _ _ (by rfl) i0 HI.out HZ0.out HZ1.out HZ2.out B _ L HBF.out (by rfl) (1 : UInt8) _ (by rfl) _ (by rfl) (by first | rfl | simp) hPl (by first | (simp; omega) | omega) ?_); intro v1 w1 ho1 hb1 hk1; obtain ⟨p0, p1, p2⟩ := struct_kept hk1; have hs1 : w.heap.size + 1 ≤ w1.heap.size := (by have := hb1.size; simpa using this); have HO1 := Lib.hid ho1; have HB1 := Lib.hid hb1; have HK1 := Lib.hid hk1; clear ho1 hb1 hk1)
      go_ret
      exact ⟨_, rfl, HO1.out, HBB.out.trans HB1.out, HKB.out.trans HK1.out⟩
    · clear hv
      go_enter Try.func72, Try.ntmps72
      go_wp2_with (at_builtin; (refine wpList_append_byte rfl _ _ (by rfl) i0 HI.out HZ0.out HZ1.out HZ2.out B _ L HBF.out (by rfl) (2 : UInt8) _ (by rfl) _ (by rfl) (by first | rfl | simp) hPl (by first | (simp; omega) | omega) ?_); intro v1 w1 ho1 hb1 hk1; obtain ⟨p0, p1, p2⟩ := struct_kept hk1; have hs1 : w.heap.size + 1 ≤ w1.heap.size := (by have := hb1.size; simpa using this); have HO1 := Lib.hid ho1; have HB1 := Lib.hid hb1; have HK1 := Lib.hid hk1; clear ho1 hb1 hk1)
      go_ret
      exact ⟨_, rfl, HO1.out, HBB.out.trans HB1.out, HKB.out.trans HK1.out⟩
  · clear hv
    have HC : Hid (n = ((UInt8.ofNat n.toNat).toNat : Int)) := by show _ = _; rcases hn01 with rfl | rfl <;> rfl
    have hm : n % 256 = n := by omega
    have HE : Hid (L ++ encV ⟨3, n, ⟨#[]⟩⟩ = L ++ [(3 : UInt8)] ++ [UInt8.ofNat n.toNat]) := by simp [Hid, encV]
    clear hn01
    go_enter Try.func72, Try.ntmps72
    go_wp2_with (first | (at_builtin; (refine wpList_append_byte rfl _ _ (by rfl) i0 HI.out HZ0.out HZ1.out HZ2.out B _ L HBF.out (by rfl) (3 : UInt8) _ (by rfl) _ (by rfl) (by first | rfl | simp) hPl (by first | (simp; omega) | omega) ?_); intro v1 w1 ho1 hb1 hk1; obtain ⟨p0, p1, p2⟩ := struct_kept hk1; have hs1 : w.heap.size + 1 ≤ w1.heap.size := (by have := hb1.size; simpa using this); have HO1 := Lib.hid ho1; have HB1 := Lib.hid hb1; have HK1 := Lib.hid hk1; clear ho1 hb1 hk1) | (at_builtin; (refine wpList_append_byte rfl _ _ (by rfl) i0 HI.out HZ0.out HZ1.out HZ2.out B _ _ (.inl HO1.out) (by rfl) (UInt8.ofNat n.toNat) _ HC.out _ (by rfl) (by first | rfl | simp) (by rw [List.length_append, List.length_singleton]; omega) (by omega) ?_); intro v2 w2 ho2 hb2 hk2; have HO2 := Lib.hid ho2; have HB2 := Lib.hid hb2; have HK2 := Lib.hid hk2; clear ho2 hb2 hk2))
    go_ret
    exact ⟨_, rfl, by rw [HE.out]; exact HO2.out, (HBB.out.trans HB1.out).trans HB2.out, (HKB.out.trans HK1.out).trans HK2.out⟩
  · clear hv
    have HE : Hid (L ++ encV ⟨4, n, ⟨#[]⟩⟩ = L ++ [(4 : UInt8)] ++ leb (zz n)) := by simp [Hid, encV]
    go_enter Try.func72, Try.ntmps72
    go_wp2_with (at_builtin; (refine wpList_append_byte rfl _ _ (by rfl) i0 HI.out HZ0.out HZ1.out HZ2.out B _ L HBF.out (by rfl) (4 : UInt8) _ (by rfl) _ (by rfl) (by first | rfl | simp) hPl (by first | (simp; omega) | omega) ?_); intro v1 w1 ho1 hb1 hk1; obtain ⟨p0, p1, p2⟩ := struct_kept hk1; have hs1 : w.heap.size + 1 ≤ w1.heap.size := (by have := hb1.size; simpa using this); have HO1 := Lib.hid ho1; have HB1 := Lib.hid hb1; have HK1 := Lib.hid hk1; clear ho1 hb1 hk1)
    rw [zz_bits n hn hn' _ _ (by simp only [IntKind.wrap_u64]; omega) (by simp only [IntKind.wrap_u64])]
    have HC := Lib.hid (rUint_any B v1 (L ++ [4]) (zz n) w1 (.inl HO1.out) (zz_le n hn hn') (by simp; omega) (by omega))
    refine HC.out.mono ?_
    rintro e w2 ⟨v2, rfl, ho, hb, hk⟩
    have HO2 := Lib.hid ho
    have HB2 := Lib.hid hb
    have HK2 := Lib.hid hk
    clear ho hb hk HC
    go_wp2_with fail
    go_ret
    exact ⟨_, rfl, by rw [HE.out]; exact HO2.out, (HBB.out.trans HB1.out).trans HB2.out, (HKB.out.trans HK1.out).trans HK2.out⟩
  · clear hv
    have HE : Hid (L ++ encV ⟨5, 0, s⟩ = L ++ [(5 : UInt8)] ++ (leb s.size ++ txt s)) := by simp [Hid, encV]
    have h10 := leb_len10 s.size (by omega)
    go_enter Try.func72, Try.ntmps72
    go_wp2_with (at_builtin; (refine wpList_append_byte rfl _ _ (by rfl) i0 HI.out HZ0.out HZ1.out HZ2.out B _ L HBF.out (by rfl) (5 : UInt8) _ (by rfl) _ (by rfl) (by first | rfl | simp) hPl (by first | (simp; omega) | omega) ?_); intro v1 w1 ho1 hb1 hk1; obtain ⟨p0, p1, p2⟩ := struct_kept hk1; have hs1 : w.heap.size + 1 ≤ w1.heap.size := (by have := hb1.size; simpa using this); have HO1 := Lib.hid ho1; have HB1 := Lib.hid hb1; have HK1 := Lib.hid hk1; clear ho1 hb1 hk1)
    have HC : Hid (∀ W, Below B w1 W → Own B W v1 (L ++ [5]) → Calls Try.prog 65 #[v1, .int .u64 (IntKind.u64.wrap (s.size : Int))] W (OutPost B W (L ++ [5] ++ leb s.size))) := fun W hb ho => by
      rw [show IntKind.u64.wrap (s.size : Int) = s.size by rw [IntKind.wrap_u64]; omega]
      exact rUint_any B v1 (L ++ [5]) s.size W (.inl ho) (by omega) (by simp; omega) (by have := hb.size; omega)
    have HS : Hid (∀ W, Keeps w1 W → W.cell? ⟨w.heap.size, 2, none⟩ = some (.string s)) := fun W hk => (struct_kept (HK1.out.trans hk)).2.2
    have hl2 : (L ++ [5] ++ leb s.size).length + s.size ≤ 140737488355328 := by simp only [List.length_append, List.length_singleton]; omega
    have hBw1 : B ≤ w1.heap.size := by omega
    clear hn hn' hs hl hPl h10
    go_region_held3 (fun W => W.cell? ⟨w.heap.size, 2, none⟩ = some (.string s))
      (first | exact p9 | exact p8 | exact p2)
      (first | (go_at_call 65; (with_reducible refine (HC.out _ (by (repeat (first | exact Below.refl _ _ | assumption | refine Below.drew ?_ | refine Below.setCell ?_ (by simp; try omega) _ | refine Below.alloc ?_ (by simp; try omega) _))) (by first | exact HO1.out | exact HO1.out.drew)).mono ?_); rintro e w2 ⟨v2, rfl, ho, hb, hk⟩; have hbz : Below B w1 w2 := Below.trans (by (repeat (first | exact Below.refl _ _ | assumption | refine Below.drew ?_ | refine Below.setCell ?_ (by simp; try omega) _ | refine Below.alloc ?_ (by simp; try omega) _))) hb; have hkz : Keeps w1 w2 := (by first | exact hk | exact Keeps.trans (Keeps.drew (Keeps.refl _)) hk); have hs2 := hbz.size; have p8 := HS.out w2 hkz; have HO2 := Lib.hid ho; have HB2 := Lib.hid hbz; have HK2 := Lib.hid hkz; clear ho hb hk hbz hkz) | (guard_target =~ (if Region.wanted _ _ = true then Oper.wp _ (Oper.mk _ (Op.call { callee := Callee.builtin Builtin.append, args := _, argTypes := _ }) _ _ _ _) _ _ _ _ else _); refine step_append_txt (by rfl) _ _ (by rfl) i0 HI.out HZ0.out HZ1.out HZ2.out B v2 _ (by first | exact HO2.out | exact HO2.out.drew) (by rfl) s (by rfl) hl2 (by first | omega | (simp; omega)) ?_; intro v3 w3 ho3 hb3 hk3; have p9 := HS.out w3 (HK2.out.trans hk3); have HO3 := Lib.hid ho3; have HB3 : Hid (Below B w2 w3) := (by first | exact hb3 | exact Below.trans (Below.drew (Below.refl _ _)) hb3); have HK3 : Hid (Keeps w2 w3) := (by first | exact hk3 | exact Keeps.trans (Keeps.drew (Keeps.refl _)) hk3); clear ho3 hb3 hk3))
    go_wp2_with fail
    go_ret
    exact ⟨_, rfl, by rw [HE.out, ← List.append_assoc]; exact HO3.out, ((HBB.out.trans HB1.out).trans HB2.out).trans HB3.out, ((HKB.out.trans HK1.out).trans HK2.out).trans HK3.out⟩
end Go.Proofs.Ytkhbephcmcnfjaa
