/- How many bytes numbers have; append of numbers that tells what stays; the law's own sizes. -/
import Derived.Test.YtbfjihbkkcggmaaPackC
import Derived.Test.YtbfjihbkkcggmaaPackF
import Derived.Test.YtbfjihbkkcggmaaPackI
import Derived.Test.YtbfjihbkkcggmaaPackH
namespace Go.Proofs.Ytbfjihbkkcggmaa
open Go.RowKit

/-- how many bytes numbers have -/
def szl (zs : List Int) : Nat := (Img.flat (zs.map Int.toNat)).length
set_option maxRecDepth 100000 in
theorem szl_nil : szl [] = 0 := rfl
set_option maxRecDepth 100000 in
theorem szl_app (a b : List Int) : szl (a ++ b) = szl a + szl b := by
  unfold szl; rw [List.map_append, Img.flat_app, List.length_append]
set_option maxRecDepth 100000 in
theorem szl_one (z : Int) : szl [z] = (Var.enc z.toNat).length := by
  unfold szl; simp [Img.flat]
set_option maxRecDepth 100000 in
theorem szl_two (y z : Int) : szl [y, z] = (Var.enc y.toNat).length + (Var.enc z.toNat).length := by
  rw [show [y, z] = [y] ++ [z] from rfl, szl_app, szl_one, szl_one]
set_option maxRecDepth 100000 in
theorem szl_len (zs : List Int) : zs.length ≤ szl zs := by
  have h := Img.flat_len (zs.map Int.toNat)
  rwa [List.length_map] at h
set_option maxRecDepth 100000 in
theorem szl_next {zs : List Int} {i : Nat} (h : i < zs.length) : szl (zs.take (i + 1)) = szl (zs.take i) + (Var.enc (zs.getD i 0).toNat).length := by
  rw [List.take_succ_eq_append_getElem h, szl_app, szl_one]
  congr 3
  simp [h]
set_option maxRecDepth 100000 in
theorem szl_take (zs : List Int) (i : Nat) : szl (zs.take i) ≤ szl zs := by
  have h := szl_app (zs.take i) (zs.drop i)
  rw [List.take_append_drop] at h
  omega

/-- what lies below B, or in blocks of anything but numbers, stays -/
structure Keep64 (B : Nat) (w w' : World) : Prop where
  low : Below B w w'
  high : ∀ (b : Nat) (cur : Array Value) (t : TypeId) (fr : Nat × Nat), w.heap[b]? = some (Obj.cells cur t fr) → t ≠ 3 → w'.heap[b]? = some (Obj.cells cur t fr)
set_option maxRecDepth 100000 in
theorem Keep64.refl (B : Nat) (w : World) : Keep64 B w w := ⟨Below.refl _ _, fun _ _ _ _ h _ => h⟩
set_option maxRecDepth 100000 in
theorem Keep64.trans {B : Nat} {a b c : World} (h : Keep64 B a b) (k : Keep64 B b c) : Keep64 B a c :=
  ⟨h.low.trans k.low, fun g cur t fr hg ht => k.high g cur t fr (h.high g cur t fr hg ht) ht⟩
set_option maxRecDepth 100000 in
theorem Keep64.of_below {B : Nat} {w w' : World} (h : Below w.heap.size w w') (hB : B ≤ w.heap.size) : Keep64 B w w' :=
  ⟨h.mono hB, fun b cur t fr hb _ => by rw [h.block b (Array.getElem?_eq_some_iff.1 hb).1]; exact hb⟩
set_option maxRecDepth 100000 in
theorem Keep64.alloc {B : Nat} {w : World} (hB : B ≤ w.heap.size) (o : Obj) : Keep64 B w (w.alloc o) :=
  Keep64.of_below ((Below.refl _ w).alloc (Nat.le_refl _) o) hB
set_option maxRecDepth 100000 in
theorem Keep64.of_grown {B n size : Nat} {w w' : World} {v : Value} {xs : List Value} (hl : Below B w w') (ho : w.ownsRow B 3 size v n xs) (hg : w.grownBy w' v.ownBlock) : Keep64 B w w' := by
  refine ⟨hl, fun b cur t fr hb ht => ?_⟩
  rw [hg.block b (Array.getElem?_eq_some_iff.1 hb).1 ?_]
  · exact hb
  · intro e
    rcases ho.2 with ⟨rfl, _⟩ | ⟨g, c, cur', rfl, _, hh, _⟩
    · cases e
    · have : b = g := by simpa [Value.ownBlock] using e
      subst this
      rw [hb] at hh
      cases hh
      exact ht rfl
set_option maxRecDepth 100000 in
theorem Keep64.size {B : Nat} {w w' : World} (h : Keep64 B w w') : w.heap.size ≤ w'.heap.size := h.low.size
set_option maxRecDepth 100000 in
theorem Keep64.drew {B : Nat} {w w1 : World} (h : Keep64 B w w1) : Keep64 B w w1.drew := ⟨⟨h.low.os, h.low.tape, h.low.output, h.low.size, h.low.block⟩, h.high⟩
set_option maxRecDepth 100000 in
theorem Keep64.cell {B b off : Nat} {w w' : World} {cur : Array Value} {t : TypeId} {fr : Nat × Nat} (h : Keep64 B w w') (hb : w.heap[b]? = some (Obj.cells cur t fr)) (ht : t ≠ 3) : w'.cell? ⟨b, off, none⟩ = cur[off]? :=
  cell_of_row w' b off cur t fr (h.high b cur t fr hb ht)

set_option maxRecDepth 100000 in
theorem wp_append_i64 {w : World} {o : Oper} {act : Act} {K : Act → World → Prop} {Q : Exit → Act → World → Prop} (s x : Operand)
    (ho : o.op = .call { callee := .builtin .append, args := #[s, x], argTypes := #[46, 46] }) (base : Nat) (v : Value) (n : Nat) (xs : List Int) (hs : act.eval s = v)
    (hown : w.ownsRow base 3 1 v n (i64s xs)) (a : Option Addr) (m c : Nat) (zs : List Int) (hx : act.eval x = .slice a m c) (hz : Sl .i64 w a m c zs)
    (N : Nat) (hN : n + m = N) (h63 : N ≤ 1000000000000) (hbase : base ≤ w.heap.size)
    (h : ∀ a' c' w', w'.ownsRow base 3 1 (.slice a' N c') N (i64s (xs ++ zs)) → Keep64 base w w' → K (act.put o.dst (.slice a' N c')) w') :
    o.wp Try.prog act w K Q := by
  subst hN
  have hm := hz.2.1
  refine wp_append_cells s x 46 3 ho (.int .i64 0) 1 8 Try.underlying46 info_i64 rfl (by omega) base v n (i64s xs) hs hown a m c (i64s zs) hx (by simp [i64s, hz.1]) ?_ (ints_oneCell .i64 zs) (by unfold maxLen; omega) (by omega) hbase ?_
  · intro h0
    obtain ⟨b, off, rfl, _, hc⟩ := hz.at h0
    refine ⟨_, rfl, fun j u hj => ?_⟩
    have hjl : j < zs.length := by
      rcases Nat.lt_or_ge j zs.length with hlt | hge
      · exact hlt
      · simp [i64s, List.getElem?_eq_none hge] at hj
    have := hc j (by have := hz.1; omega)
    rw [show (⟨b, off, none⟩ : Addr).add j = ⟨b, off + j, none⟩ from by simp [Addr.add], this]
    simp [i64s, hjl] at hj
    rw [← hj]; simp [hjl]
  · intro a' c' w' h1 h2 h3 _
    exact h a' c' w' (by rw [show i64s (xs ++ zs) = i64s xs ++ i64s zs from by simp [i64s]]; exact h1) (Keep64.of_grown h2 hown h3)
set_option maxRecDepth 100000 in
theorem append_i64_g {w : World} {ops : Array Oper} {rest : List Oper} {o : Oper} {act : Act} {Q : Exit → Act → World → Prop} (hw : Region.wanted o (yielded ops act.tmps) = true) (s x : Operand)
    (ho : o.op = .call { callee := .builtin .append, args := #[s, x], argTypes := #[46, 46] }) (base : Nat) (v : Value) (n : Nat) (xs : List Int) (hs : act.eval s = v)
    (hown : w.ownsRow base 3 1 v n (i64s xs)) (a : Option Addr) (m c : Nat) (zs : List Int) (hx : act.eval x = .slice a m c) (hz : Sl .i64 w a m c zs)
    (N : Nat) (hN : n + m = N) (h63 : N ≤ 1000000000000) (hbase : base ≤ w.heap.size)
    (h : ∀ a' c' w', w'.ownsRow base 3 1 (.slice a' N c') N (i64s (xs ++ zs)) → Keep64 base w w' → wpList Try.prog ops Q rest (act.put o.dst (.slice a' N c')) w') :
    wpList Try.prog ops Q (o :: rest) act w := by
  refine wpList_step fun K hK => ?_
  rw [if_pos hw]
  exact wp_append_i64 s x ho base v n xs hs hown a m c zs hx hz N hN h63 hbase (fun a' c' w' h1 h2 => hK _ _ (h a' c' w' h1 h2))
set_option maxRecDepth 100000 in
theorem step_append_i64_g {w : World} {ops : Array Oper} {o : Oper} {act : Act} {K : Act → World → Prop} {Q : Exit → Act → World → Prop} {E : Prop} (hw : Region.wanted o (yielded ops act.tmps) = true) (s x : Operand)
    (ho : o.op = .call { callee := .builtin .append, args := #[s, x], argTypes := #[46, 46] }) (base : Nat) (v : Value) (n : Nat) (xs : List Int) (hs : act.eval s = v)
    (hown : w.ownsRow base 3 1 v n (i64s xs)) (a : Option Addr) (m c : Nat) (zs : List Int) (hx : act.eval x = .slice a m c) (hz : Sl .i64 w a m c zs)
    (N : Nat) (hN : n + m = N) (h63 : N ≤ 1000000000000) (hbase : base ≤ w.heap.size)
    (h : ∀ a' c' w', w'.ownsRow base 3 1 (.slice a' N c') N (i64s (xs ++ zs)) → Keep64 base w w' → K (act.put o.dst (.slice a' N c')) w') :
    if Region.wanted o (yielded ops act.tmps) = true then o.wp Try.prog act w K Q else E := by
  rw [if_pos hw]
  exact wp_append_i64 s x ho base v n xs hs hown a m c zs hx hz N hN h63 hbase h

set_option maxHeartbeats 1600000 in
set_option maxRecDepth 100000 in
theorem sizes_is (a : Option Addr) (n cap : Nat) (zs : List Int) (w : World) (hs : Sl .i64 w a n cap zs) (h0 : ∀ z ∈ zs, 0 ≤ z) (hb : szl zs ≤ 1000000000) :
    Calls Try.prog 17 #[.slice a n cap] w fun e w' => e = .returned (.int .i64 (szl zs : Int)) ∧ Below w.heap.size w w' := by
  have hnc := hs.2.1
  have hcm := hs.2.2.1
  unfold maxLen at hcm
  have HS := Lib.hid hs
  have HL := Lib.hid hs.1
  have HZ := Lib.hid h0
  have HB := Lib.hid hb
  clear hs h0 hb
  go_enter Try.func17, Try.ntmps17
  go_wp2
  go_loopw [3, 4] (fun nv ix wr => ∃ (i s : Nat), nv = .int .i64 (s : Int) ∧ ix = .int .i64 (i : Int) ∧ i ≤ n ∧ s ≤ 1000000000 ∧ Hid (s = szl (zs.take i)) ∧ Hid (Below w.heap.size w wr)) (fun _ ix _ => n - (intOf ix).toNat)
  case atStart => exact ⟨0, 0, rfl, rfl, Nat.zero_le _, by omega, rfl, Below.refl _ _⟩
  case round =>
    obtain ⟨i, s, rfl, rfl, hi, hs9, HE, HBW⟩ := hrel
    by_cases hlt : i < n
    · have hs := HS.out.below HBW.out (Nat.le_refl _)
      obtain ⟨x, hx, hx9⟩ := hs.natAt HZ.out hlt
      obtain ⟨b1, o1, rfl, _, hc1⟩ := hs.at (by omega)
      have hx1 := hc1 i hlt
      rw [← hx] at hx1
      have hnx := szl_next (zs := zs) (i := i) (by rw [HL.out]; exact hlt)
      rw [← hx, Int.toNat_natCast, ← HE.out] at hnx
      have hle := szl_take zs (i + 1)
      have hbb := HB.out
      obtain ⟨m, hm⟩ : ∃ m, (Var.enc x).length = m := ⟨_, rfl⟩
      rw [hm] at hnx
      have HNX : Hid (s + m = szl (zs.take (i + 1))) := hnx.symm
      have hsm : s + m ≤ 1000000000 := by omega
      have hli : (i : Int) < (n : Int) := by omega
      have hxu : IntKind.u64.wrap (x : Int) = (x : Int) := by rw [wrap_u64v]; omega
      have HC := Lib.hid (size_is x m (by omega) hm wr)
      clear hs hc1 hx hnx hle hbb hm
      go_wp2_with (first | (go_at_call 16; refine HC.out.mono ?_; rintro e w2 ⟨rfl, hb2⟩; have B2 : Hid (Below w.heap.size w w2) := HBW.out.trans (hb2.mono HBW.out.size); clear hb2) | fail)
      go_roundw
      case rel => exact ⟨i + 1, s + m, by go_num, by go_num, by omega, hsm, HNX.out, B2.out⟩
      case measure => simp [intOf]; omega
    · obtain rfl : i = n := by omega
      have htk : zs.take i = zs := List.take_of_length_le (by rw [HL.out]; exact Nat.le_refl _)
      have HE2 : Hid (s = szl zs) := by have h := HE.out; rwa [htk] at h
      clear htk
      go_wp2
      go_ret
      exact ⟨by rw [HE2.out]; rfl, HBW.out⟩

end Go.Proofs.Ytbfjihbkkcggmaa
