/- Used by the law. -/
import Derived.Test.YtjmabjeaodojeaaGreatSpecSteps
import Derived.Test.YtjmabjeaodojeaaGreatSpecFits
import Derived.Test.YtjmabjeaodojeaaGreatSpecTellA
import Derived.Test.YtjmabjeaodojeaaGreatNumWalk
import Derived.Test.YtjmabjeaodojeaaGreatSpecShelf
namespace Go.Proofs.YtjmabjeaodojeaaGreat
open Go.RowKit

def HoldsI (w : World) (v : Value) (l : List Int) : Prop := ∃ a n c, v = .slice a n c ∧ Sl .u8 w a n c l
theorem HoldsI.keep {w w' : World} {v : Value} {l : List Int} (h : HoldsI w v l) (hk : ∀ p x, w.cell? p = some x → w'.cell? p = some x) : HoldsI w' v l := by
  obtain ⟨a, n, c, rfl, h1, h2, h3, h4, h5⟩ := h
  refine ⟨a, n, c, rfl, h1, h2, h3, h4, ?_⟩
  rcases h5 with h5 | ⟨b, off, ha, hc⟩
  · exact .inl h5
  · exact .inr ⟨b, off, ha, fun i hi => hk _ _ (hc i hi)⟩
def RowOf (w : World) (p : Nat) (v0 v1 v2 v3 : Value) : Prop := w.cell? ⟨p, 0, none⟩ = some v0 ∧ w.cell? ⟨p, 1, none⟩ = some v1 ∧ w.cell? ⟨p, 2, none⟩ = some v2 ∧ w.cell? ⟨p, 3, none⟩ = some v3
theorem RowOf.keep {w w' : World} {p : Nat} {v0 v1 v2 v3 : Value} (h : RowOf w p v0 v1 v2 v3) (hk : ∀ p x, w.cell? p = some x → w'.cell? p = some x) : RowOf w' p v0 v1 v2 v3 := ⟨hk _ _ h.1, hk _ _ h.2.1, hk _ _ h.2.2.1, hk _ _ h.2.2.2⟩
theorem rowOf_new (w : World) (t : TypeId) (v0 v1 v2 v3 : Value) : RowOf (w.alloc (.cells #[v0, v1, v2, v3] t)) w.heap.size v0 v1 v2 v3 := by
  refine ⟨?_, ?_, ?_, ?_⟩ <;> (rw [World.cell?_alloc_mark]; rfl)
theorem below_grew7 {w w' : World} (h : Below w.heap.size w w') : w.grownBy w' none := ⟨h.os, h.tape, h.output, h.size, fun k hk _ => h.block k hk⟩
theorem fresh_row {W0 w0 w' : World} (h1 : W0.drew.grownBy w0 none) (h2 : ∃ p, W0.heap.size ≤ p ∧ w0.grownBy w' (some p)) : W0.drew.grownBy w' none := by
  obtain ⟨g, hg, hr⟩ := h2
  exact ⟨hr.os.trans h1.os, hr.tape.trans h1.tape, hr.output.trans h1.output, Nat.le_trans h1.size hr.size, fun k hk _ => (hr.block k (Nat.lt_of_lt_of_le hk h1.size) (fun e => by cases e; exact absurd hk (by show ¬ g < W0.heap.size; omega))).trans (h1.block k hk (by simp))⟩

/-! ### a mark -/
theorem frozen_block (w : World) (p k n : Nat) (j : Nat) (h : j ≠ p) : (w.freeze ⟨p, k, none⟩ n).heap[j]? = w.heap[j]? := by
  unfold World.freeze
  split
  · rfl
  · simp only [Array.getElem?_modify]
    rw [if_neg (fun e => h e.symm)]
set_option maxRecDepth 100000 in
theorem frozen_rows (w : World) (p k : Nat) : ∀ (C : Array Value) (t : TypeId) (fr : Nat × Nat) (j : Nat), w.heap[j]? = some (Obj.cells C t fr) → ∃ fr', (w.freeze ⟨p, k, none⟩ 1).heap[j]? = some (Obj.cells C t fr') := by
  intro C t fr j h
  by_cases hj : j = p
  · subst hj
    unfold World.freeze
    rw [if_neg (by decide)]
    simp only [Array.getElem?_modify, if_pos, h, Option.map_some]
    exact ⟨_, rfl⟩
  · exact ⟨fr, by rw [frozen_block w p k 1 j hj]; exact h⟩
set_option maxRecDepth 100000 in
theorem frozen_size (w : World) (p k : Nat) : (w.freeze ⟨p, k, none⟩ 1).heap.size = w.heap.size := by
  unfold World.freeze
  rw [if_neg (by decide)]
  simp
theorem frozen_cells (w : World) (p k : Nat) : ∀ a x, w.cell? a = some x → (w.freeze ⟨p, k, none⟩ 1).cell? a = some x := by
  intro a x h
  unfold World.cell? at h ⊢
  cases hb : w.heap[a.block]? with
  | none => rw [hb] at h; exact absurd h (by simp)
  | some ob =>
    by_cases hj : a.block = p
    · cases ob with
      | cells C t fr =>
        obtain ⟨fr', hf⟩ := frozen_rows w p k C t fr a.block hb
        rw [hf]; rw [hb] at h; exact h
      | _ => rw [hb] at h; exact absurd h (by simp)
    · rw [frozen_block w p k 1 a.block hj]; exact h
set_option maxRecDepth 100000 in
theorem frozen_grown (w : World) (p k : Nat) : w.grownBy (w.freeze ⟨p, k, none⟩ 1) (some p) := by
  refine ⟨?_, ?_, ?_, Nat.le_of_eq (frozen_size w p k).symm, fun j _ hne => frozen_block w p k 1 j (fun e => hne (by rw [e]))⟩ <;> (unfold World.freeze; rw [if_neg (by decide)])
set_option maxRecDepth 100000 in
theorem holds_frozen {w : World} {p k : Nat} {fr : Nat × Nat} (h : w.heap[p]? = some (.cells #[.int .u8 82, .int .u8 69, .int .u8 80] 5 fr)) : HoldsI (w.freeze ⟨p, k, none⟩ 1) (.slice (some ⟨p, 0, none⟩) 3 3) [82, 69, 80] := by
  obtain ⟨fr', hf⟩ := frozen_rows w p k _ _ _ _ h
  exact ⟨_, 3, 3, rfl, Sl.of_heap (zs := [82, 69, 80]) (t := 5) (fr := fr') hf (by decide) rfl (by unfold maxLen; omega)⟩

section
variable {o : Oper} {a : Act} {w : World} {ts : Array TypeId} {x : Operand} {v : Value}
set_option maxRecDepth 100000 in
theorem run_sideField (ho : o.op = .call { callee := .value (.func 52), args := #[x], argTypes := ts }) (hx : a.eval x = v) : (execOp a.eval o).run Tryz.prog w = .ok (.enter 52 #[v]) w := by
  subst hx
  simp only [execOp, ho]
  go_simp
set_option maxRecDepth 100000 in
theorem run_numWrite (ho : o.op = .call { callee := .value (.func 50), args := #[x], argTypes := ts }) (hx : a.eval x = v) : (execOp a.eval o).run Tryz.prog w = .ok (.enter 50 #[v]) w := by
  subst hx
  simp only [execOp, ho]
  go_simp
set_option maxRecDepth 100000 in
theorem run_conv (ho : o.op = .convert 22 22 x) {p : Nat} {fr : Nat × Nat} (hx : a.eval x = .slice (some ⟨p, 0, none⟩) 3 3) (hb : w.heap[p]? = some (.cells #[.int .u8 82, .int .u8 69, .int .u8 80] 5 fr)) :
    (execOp a.eval o).run Tryz.prog w = .ok (.value (.slice (some ⟨p, 0, none⟩) 3 3)) (w.freeze ⟨p, 3, none⟩ 1) := by
  have hsh : w.shape? p = some (5, 3) := by
    unfold World.shape?
    rw [hb]; rfl
  simp [execOp, ho, hx, convert, run_underlying Tryz.underlying22, run_underlying Tryz.underlying5, markStringish, hsh, Result.andThen]
set_option maxRecDepth 100000 in
theorem run_fields (x0 x1 x2 x3 : Option Addr) (n0 n1 n2 n3 c0 c1 c2 c3 : Nat) (w : World) : (Instr.buildSlice 41 4 #[(0, .slice x0 n0 c0), (1, .slice x1 n1 c1), (2, .slice x2 n2 c2), (3, .slice x3 n3 c3)]).run Tryz.prog w =
    .ok (.slice (some ⟨w.heap.size, 0, none⟩) 4 4) (w.alloc (.cells #[.slice x0 n0 c0, .slice x1 n1 c1, .slice x2 n2 c2, .slice x3 n3 c3] 22)) := by
  go_simp
set_option maxRecDepth 100000 in
theorem run_fields4 {y0 y1 y2 y3 : Operand} (ho : o.op = .buildSlice 41 4 #[(0, y0), (1, y1), (2, y2), (3, y3)]) {x0 x1 x2 x3 : Option Addr} {n0 n1 n2 n3 c0 c1 c2 c3 : Nat} (h0 : a.eval y0 = .slice x0 n0 c0) (h1 : a.eval y1 = .slice x1 n1 c1) (h2 : a.eval y2 = .slice x2 n2 c2) (h3 : a.eval y3 = .slice x3 n3 c3) :
    (execOp a.eval o).run Tryz.prog w = .ok (.value (.slice (some ⟨w.heap.size, 0, none⟩) 4 4)) (w.alloc (.cells #[.slice x0 n0 c0, .slice x1 n1 c1, .slice x2 n2 c2, .slice x3 n3 c3] 22)) := by
  simp [execOp, ho, h0, h1, h2, h3, run_fields, Result.andThen]
set_option maxRecDepth 100000 in
theorem run_fieldAddr0 (ho : o.op = .fieldAddr 39 x 0) {p : Nat} (hx : a.eval x = .pointer (some ⟨p, 0, none⟩)) : (execOp a.eval o).run Tryz.prog w = .ok (.value (.pointer (some ⟨p, 0, none⟩))) w := by
  simp only [execOp, ho, hx]
  go_simp
set_option maxRecDepth 100000 in
theorem run_fieldAddr1 (ho : o.op = .fieldAddr 39 x 1) {p : Nat} (hx : a.eval x = .pointer (some ⟨p, 0, none⟩)) : (execOp a.eval o).run Tryz.prog w = .ok (.value (.pointer (some ⟨p, 1, none⟩))) w := by
  simp only [execOp, ho, hx]
  go_simp
set_option maxRecDepth 100000 in
theorem run_fieldAddr2 (ho : o.op = .fieldAddr 39 x 2) {p : Nat} (hx : a.eval x = .pointer (some ⟨p, 0, none⟩)) : (execOp a.eval o).run Tryz.prog w = .ok (.value (.pointer (some ⟨p, 2, none⟩))) w := by
  simp only [execOp, ho, hx]
  go_simp
end

theorem grown_below7 {w w' : World} (h : w.drew.grownBy w' none) : Below w.heap.size w w' := ⟨h.os, h.tape, h.output, h.size, fun k hk => h.block k hk (by simp)⟩
/-! ### bytes.Join -/
def byts (l : List Int) : List UInt8 := l.map fun z => UInt8.ofNat z.toNat
theorem nums_byts {l : List Int} (h : ∀ z ∈ l, (Lit.int .u8 z).wf = true) : Lib.numsL (byts l) = l := by
  unfold Lib.numsL byts
  rw [List.map_map]
  conv => rhs; rw [← List.map_id l]
  apply List.map_congr_left
  intro z hz
  have := bounds_u8 (h z hz)
  simp
  omega
theorem byts_at {l : List Int} (h : ∀ z ∈ l, (Lit.int .u8 z).wf = true) {i : Nat} {x : UInt8} (hx : (byts l)[i]? = some x) : i < l.length ∧ (x.toNat : Int) = l.getD i 0 := by
  have hi : i < l.length := by
    have := (List.getElem?_eq_some_iff.1 hx).1
    simpa [byts] using this
  refine ⟨hi, ?_⟩
  have e : Lib.numsL (byts l) = l := nums_byts h
  have : (Lib.numsL (byts l))[i]? = some (x.toNat : Int) := by
    unfold Lib.numsL; rw [List.getElem?_map, hx]; rfl
  rw [e] at this
  rw [List.getD_eq_getElem?_getD, this]; rfl
theorem HoldsI.bytes {w : World} {v : Value} {l : List Int} (h : HoldsI w v l) : Lib.HoldsBytes w v (byts l) := by
  obtain ⟨a, n, c, rfl, h1, h2, h3, h4, h5⟩ := h
  have hl : (byts l).length = n := by rw [← h1]; simp [byts]
  refine ⟨if n = 0 then a else a, c, by rw [hl]; simp, ?_, ?_⟩
  · intro ha
    rcases h5 with h5 | ⟨b, off, hb, _⟩
    · exact List.eq_nil_of_length_eq_zero (by rw [hl, h5])
    · simp at ha; rw [ha] at hb; cases hb
  · intro y hy i x hx
    obtain ⟨hi, e⟩ := byts_at h4 hx
    rcases h5 with h5 | ⟨b, off, hb, hc⟩
    · omega
    · have : a = some y := by simpa using hy
      rw [hb] at this
      cases this
      have := hc i (by omega)
      rw [show (⟨b, off, none⟩ : Addr).add i = ⟨b, off + i, none⟩ from by simp [Addr.add], this, e]
set_option maxRecDepth 100000 in
theorem holds_new (w : World) (t : TypeId) : HoldsI (w.alloc (.cells #[.int .u8 32] t)) (.slice (some ⟨w.heap.size, 0, none⟩) 1 1) [32] :=
  ⟨_, _, _, rfl, Sl.lay [32] (by decide) (by unfold maxLen; simp) rfl rfl rfl⟩
theorem fresh_sl {B : Nat} {w' : World} {v : Value} {l : List UInt8} (h : Lib.FreshBytes B w' v l) : ∃ g c, v = .slice (some ⟨g, 0, none⟩) l.length c ∧ Sl .u8 w' (some ⟨g, 0, none⟩) l.length c (Lib.numsL l) := by
  obtain ⟨g, cap, zs, rfl, _, hlc, hcm, hzl, hzr, hzb, hc, _⟩ := h
  have e0 : ∀ ys : List Int, (∀ z ∈ ys, 0 ≤ z ∧ z < 256) → Lib.numsL (Lib.bytesOf ys) = ys := by
    intro ys hr
    unfold Lib.numsL Lib.bytesOf
    rw [List.map_map]
    conv => rhs; rw [← List.map_id ys]
    apply List.map_congr_left
    intro z hz
    have := hr z hz
    simp
    omega
  have e : zs.take l.length = Lib.numsL l := by
    have h := e0 (zs.take l.length) (fun z hz => hzr z (List.mem_of_mem_take hz))
    rw [hzb] at h; exact h.symm
  refine ⟨g, cap, rfl, by rw [Lib.numsL_length], hlc, hcm, ?_, .inr ⟨g, 0, rfl, fun i hi => ?_⟩⟩
  · intro z hz
    have := Lib.numsL_range l z hz
    exact WalkArith.wf_u8 (by omega)
  · rw [Nat.zero_add, hc i (by omega), ← e]
    congr 2
    rw [List.getD_eq_getElem?_getD, List.getD_eq_getElem?_getD, List.getElem?_take, if_pos hi]
set_option maxRecDepth 100000 in
theorem join4_is (p : Nat) (v0 v1 v2 v3 : Value) (f g d : List Int) (sv : Value) (w : World) (hr : RowOf w p v0 v1 v2 v3) (h0 : HoldsI w v0 [82, 69, 80]) (h1 : HoldsI w v1 f) (h2 : HoldsI w v2 g) (h3 : HoldsI w v3 d) (hs : HoldsI w sv [32])
    (hf : f.length ≤ 4000) (hg : g.length ≤ 4000) (hd : d.length ≤ 20) :
    Calls Tryz.prog 53 #[.slice (some ⟨p, 0, none⟩) 4 4, sv] w fun e w' => ∃ b n c, e = .returned (.slice (some ⟨b, 0, none⟩) n c) ∧ n = ([82, 69, 80] ++ ([32] ++ f) ++ ([32] ++ g) ++ ([32] ++ d)).length ∧ Sl .u8 w' (some ⟨b, 0, none⟩) n c ([82, 69, 80] ++ ([32] ++ f) ++ ([32] ++ g) ++ ([32] ++ d)) ∧ Below w.heap.size w w' := by
  have wf : ∀ {v : Value} {l : List Int}, HoldsI w v l → ∀ z ∈ l, (Lit.int .u8 z).wf = true := fun h => by
    obtain ⟨_, _, _, _, _, _, _, h4, _⟩ := h; exact h4
  have hP : Lib.PartsAt w ⟨p, 0, none⟩ [v0, v1, v2, v3] [byts [82, 69, 80], byts f, byts g, byts d] := by
    refine ⟨rfl, fun i v hv => ?_, fun i v l hv hl => ?_⟩
    · match i, hv with
      | 0, hv => cases hv; simpa [Addr.add] using hr.1
      | 1, hv => cases hv; simpa [Addr.add] using hr.2.1
      | 2, hv => cases hv; simpa [Addr.add] using hr.2.2.1
      | 3, hv => cases hv; simpa [Addr.add] using hr.2.2.2
      | i + 4, hv => simp at hv
    · match i, hv, hl with
      | 0, hv, hl => cases hv; cases hl; exact h0.bytes
      | 1, hv, hl => cases hv; cases hl; exact h1.bytes
      | 2, hv, hl => cases hv; cases hl; exact h2.bytes
      | 3, hv, hl => cases hv; cases hl; exact h3.bytes
      | i + 4, hv, hl => simp at hv
  have hbl : ∀ l : List Int, (byts l).length = l.length := fun l => by simp [byts]
  have hj : Lib.join [byts [82, 69, 80], byts f, byts g, byts d] (byts [32]) = byts ([82, 69, 80] ++ ([32] ++ f) ++ ([32] ++ g) ++ ([32] ++ d)) := by
    rw [Lib.join_cons]
    simp [Lib.joinTail, byts]
  have hjl : Lib.lens [byts [82, 69, 80], byts f, byts g, byts d] + (byts [32]).length * (4 - 1) ≤ 140737488355328 := by
    simp only [Lib.lens, List.map_cons, List.map_nil, List.sum_cons, List.sum_nil, hbl, List.length_cons, List.length_nil]
    omega
  refine (Any.bytes_Join_many Tryz.joinB p 0 4 4 [v0, v1, v2, v3] [byts [82, 69, 80], byts f, byts g, byts d] sv (byts [32]) w rfl (by omega) hP (Nat.le_refl _) hs.bytes (by omega) hjl).mono ?_
  rintro e w' ⟨v', rfl, hfr, hb⟩
  obtain ⟨b, c, rfl, hsl⟩ := fresh_sl hfr
  rw [hj] at hsl ⊢
  have hwf : ∀ z ∈ [82, 69, 80] ++ ([32] ++ f) ++ ([32] ++ g) ++ ([32] ++ d), (Lit.int .u8 z).wf = true := by
    intro z hz
    simp only [List.mem_append] at hz
    rcases hz with ((hz | hz | hz) | hz | hz) | hz | hz
    · exact wf h0 z hz
    · exact wf hs z hz
    · exact wf h1 z hz
    · exact wf hs z hz
    · exact wf h2 z hz
    · exact wf hs z hz
    · exact wf h3 z hz
  rw [nums_byts hwf] at hsl
  exact ⟨b, _, c, rfl, hbl _, hsl, hb⟩

set_option maxHeartbeats 3200000 in
set_option maxRecDepth 100000 in
theorem write7_is (x : Rw) (fit : Bool) (out : List Int) (er : Int) (w : World) (hx : x.Good w) (hl : x.r.L.length ≤ 1000 ∧ x.r.R.length ≤ 1000) (hf : Spec.fit x.r = fit)
    (ho : (if fit = true then Spec.write x.r else []) = out) (he : (if fit = true then 0 else 60) = er) :
    Calls Tryz.prog 21 #[x.v] w fun e w' => ∃ a' n' c', e = .returned (.tuple #[.slice a' n' c', .int .i64 er]) ∧ n' = out.length ∧ Sl .u8 w' a' n' c' out ∧ (a' = none → c' = 0) ∧ Below w.heap.size w w' := by
  obtain ⟨la, ln, lc, L, ra, rn, rc, R, C⟩ := x
  have HX := Lib.hid hx
  have HF := Lib.hid hf
  have HO := Lib.hid ho
  have HL := Lib.hid hl
  have HE := Lib.hid he
  have HLN : Hid (ln ≤ 1000000 ∧ rn ≤ 1000000) := by
    have h1 : L.length = ln := hx.1.1; have h2 : L.length ≤ 1000 := hl.1
    have h3 : R.length = rn := hx.2.1.1; have h4 : R.length ≤ 1000 := hl.2
    exact ⟨by omega, by omega⟩
  have HB : ∀ o, Hid (Below w.heap.size w (w.alloc o)) := fun o => (Below.refl _ w).alloc (Nat.le_refl _) o
  have hmx : Tryz.prog.follows .mixedOrders = true := by kernel_rfl
  have HMX := Lib.hid hmx
  clear hx hf ho hl he hmx
  simp only [Rw.v, Rw.l, Rw.rt, Rw.c]
  go_enter Tryz.func21, Tryz.ntmps21
  go_wp2_with fail
  refine (fit7_is ⟨la, ln, lc, L, ra, rn, rc, R, C⟩ fit _ (HX.out.alloc _) HF.out).mono ?_
  rintro e W0 ⟨rfl, hb1⟩
  have hf1 : W0.heap[w.heap.size]? = some (.cells #[.slice la ln lc, .slice ra rn rc, .int .u64 C] 39 (0, 0)) := by
    rw [hb1.block _ (by unfold World.alloc; simp)]
    unfold World.alloc; simp
  have HC0 : Hid (W0.drew.cell? ⟨w.heap.size, 0, none⟩ = some (.slice la ln lc)) := by show W0.cell? _ = _; simp [World.cell?, hf1]
  have HC1 : Hid (W0.drew.cell? ⟨w.heap.size, 1, none⟩ = some (.slice ra rn rc)) := by show W0.cell? _ = _; simp [World.cell?, hf1]
  have HC2' : Hid (W0.drew.cell? ⟨w.heap.size, 2, none⟩ = some (.int .u64 C)) := by show W0.cell? _ = _; simp [World.cell?, hf1]
  have HB1 : Hid (Below w.heap.size w W0) := (HB _).out.trans (hb1.mono (by simp))
  clear hb1 hf1
  cases fit
  · obtain rfl : er = 60 := by rw [← HE.out]; rfl
    obtain rfl : out = [] := by rw [← HO.out]; rfl
    go_wp2
    go_ret2
    exact ⟨none, 0, 0, rfl, rfl, Sl.nil, fun _ => rfl, HB1.out⟩
  · obtain rfl : er = 0 := by rw [← HE.out]; rfl
    have hfp := Spec.fit_parts HF.out
    have hcs := Spec.chk_sides hfp.1
    have HGL : Hid (Utf.allGood L = true) := hcs.1
    have HGR : Hid (Utf.allGood R = true) := hcs.2.1
    have hC1 : C < 18446744073709551615 := hcs.2.2
    have hC0 : 0 ≤ C := HX.out.2.2.1
    obtain ⟨d, rfl⟩ : ∃ d : Nat, C = (d : Int) := ⟨C.toNat, by omega⟩
    have HC2 := HC2'
    have HD : Hid (d < 18446744073709551616) := by show _ < _; omega
    obtain ⟨f, hff⟩ : ∃ f, Spec.field L = f := ⟨_, rfl⟩
    obtain ⟨g, hgg⟩ : ∃ g, Spec.field R = g := ⟨_, rfl⟩
    have HFL : Hid (f.length ≤ 4000) := field_len HL.out.1 hff
    have HGLN : Hid (g.length ≤ 4000) := field_len HL.out.2 hgg
    have HFF := Lib.hid hff
    have HGG := Lib.hid hgg
    have HOUT : Hid (out = [82, 69, 80] ++ ([32] ++ f) ++ ([32] ++ g) ++ ([32] ++ Num.dig d)) := by
      show _ = _
      rw [← HO.out, ← hff, ← hgg]
      show Spec.write ⟨L, R, (d : Int)⟩ = _
      unfold Spec.write
      simp
    have HDL : Hid ((Num.dig d).length ≤ 20) := Num.len_20 HD.out
    have HDW := Lib.hid (Num.dig_wf d)
    have HSL : Hid (Sl .i64 W0.drew la ln lc L) := (HX.out.below HB1.out (Nat.le_refl _)).1
    have HSR : Hid (Sl .i64 W0.drew ra rn rc R) := (HX.out.below HB1.out (Nat.le_refl _)).2.1
    clear hfp hcs hff hgg hC1 hC0 HC2'
    go_wp2_with fail
    refine wp_region_told2 HMX.out 1 [(8, 8), (9, 9), (10, 10), (11, 11), (12, 12), (13, 13), (14, 14), (15, 15), (16, 16), (17, 17), (18, 18), (19, 19), (4, 4)]
      (fun (j : Nat) (v u : Value) (w0 : World) => match j with
        | 0 => ∃ p fr, v = .slice (some ⟨p, 0, none⟩) 3 3 ∧ W0.heap.size ≤ p ∧ w0.heap[p]? = some (.cells #[.int .u8 82, .int .u8 69, .int .u8 80] 5 fr)
        | 1 => HoldsI w0 v [82, 69, 80]
        | 2 => v = .pointer (some ⟨w.heap.size, 0, none⟩)
        | 3 => v = .slice la ln lc
        | 4 => HoldsI w0 v f
        | 5 => v = .pointer (some ⟨w.heap.size, 1, none⟩)
        | 6 => v = .slice ra rn rc
        | 7 => HoldsI w0 v g
        | 8 => v = .pointer (some ⟨w.heap.size, 2, none⟩)
        | 9 => v = .int .u64 (d : Int)
        | 10 => HoldsI w0 v (Num.dig d)
        | 11 => ∃ p v0 v1 v2 v3, v = .slice (some ⟨p, 0, none⟩) 4 4 ∧ RowOf w0 p v0 v1 v2 v3 ∧ HoldsI w0 v0 [82, 69, 80] ∧ HoldsI w0 v1 f ∧ HoldsI w0 v2 g ∧ HoldsI w0 v3 (Num.dig d)
        | 12 => ∃ p v0 v1 v2 v3, v = .slice (some ⟨p, 0, none⟩) 4 4 ∧ RowOf w0 p v0 v1 v2 v3 ∧ HoldsI w0 v0 [82, 69, 80] ∧ HoldsI w0 v1 f ∧ HoldsI w0 v2 g ∧ HoldsI w0 v3 (Num.dig d)
        | _ => True)
      (fun W => (W0).drew.grownBy W none) (fun _ w0 w' => (∃ p, W0.heap.size ≤ p ∧ w0.grownBy w' (some p)) ∧ (∀ p x, w0.cell? p = some x → w'.cell? p = some x) ∧ ∀ (C : Array Value) (t : TypeId) (fr : Nat × Nat) (p : Nat), w0.heap[p]? = some (Obj.cells C t fr) → ∃ fr', w'.heap[p]? = some (Obj.cells C t fr')) (by kernel_rfl) (by kernel_rfl) (World.grownBy.refl _ _) (fun _ _ h1 h2 => h1.trans h2) (fun _ _ _ h1 h2 => fresh_row h1 h2.1) ?_ ?_ ?_ ?_
    · intro j v u w0 w' h hg
      match j, h with
      | 0, h => obtain ⟨p, fr, h1, h2, h3⟩ := h; exact ⟨p, fr, h1, h2, (hg.block p (Array.getElem?_eq_some_iff.1 h3).1 (by simp)).trans h3⟩
      | 1, h => exact HoldsI.keep h (fun p x hc => hg.cell hc (by simp))
      | 2, h => exact h
      | 3, h => exact h
      | 4, h => exact HoldsI.keep h (fun p x hc => hg.cell hc (by simp))
      | 5, h => exact h
      | 6, h => exact h
      | 7, h => exact HoldsI.keep h (fun p x hc => hg.cell hc (by simp))
      | 8, h => exact h
      | 9, h => exact h
      | 10, h => exact HoldsI.keep h (fun p x hc => hg.cell hc (by simp))
      | 11, h => obtain ⟨p, v0, v1, v2, v3, h1, h2, h3, h4, h5, h6⟩ := h; exact ⟨p, v0, v1, v2, v3, h1, h2.keep (fun p x hc => hg.cell hc (by simp)), h3.keep (fun p x hc => hg.cell hc (by simp)), h4.keep (fun p x hc => hg.cell hc (by simp)), h5.keep (fun p x hc => hg.cell hc (by simp)), h6.keep (fun p x hc => hg.cell hc (by simp))⟩
      | 12, h => obtain ⟨p, v0, v1, v2, v3, h1, h2, h3, h4, h5, h6⟩ := h; exact ⟨p, v0, v1, v2, v3, h1, h2.keep (fun p x hc => hg.cell hc (by simp)), h3.keep (fun p x hc => hg.cell hc (by simp)), h4.keep (fun p x hc => hg.cell hc (by simp)), h5.keep (fun p x hc => hg.cell hc (by simp)), h6.keep (fun p x hc => hg.cell hc (by simp))⟩
      | j + 13, h => exact h
    · intro j v u a0 w0 w' hne h hr
      match j, hne, h with
      | 0, hne, h => obtain ⟨p, fr, h1, h2, h3⟩ := h; obtain ⟨fr2, h4⟩ := hr.2.2 _ _ _ _ h3; exact ⟨p, fr2, h1, h2, h4⟩
      | 1, hne, h => exact HoldsI.keep h hr.2.1
      | 2, hne, h => exact h
      | 3, hne, h => exact h
      | 4, hne, h => exact HoldsI.keep h hr.2.1
      | 5, hne, h => exact h
      | 6, hne, h => exact h
      | 7, hne, h => exact HoldsI.keep h hr.2.1
      | 8, hne, h => exact h
      | 9, hne, h => exact h
      | 10, hne, h => exact HoldsI.keep h hr.2.1
      | 11, hne, h => obtain ⟨p, v0, v1, v2, v3, h1, h2, h3, h4, h5, h6⟩ := h; exact ⟨p, v0, v1, v2, v3, h1, h2.keep hr.2.1, h3.keep hr.2.1, h4.keep hr.2.1, h5.keep hr.2.1, h6.keep hr.2.1⟩
      | 12, hne, h => obtain ⟨p, v0, v1, v2, v3, h1, h2, h3, h4, h5, h6⟩ := h; exact ⟨p, v0, v1, v2, v3, h1, h2.keep hr.2.1, h3.keep hr.2.1, h4.keep hr.2.1, h5.keep hr.2.1, h6.keep hr.2.1⟩
      | j + 13, _, h => exact h
    · intro i1 o ho a1 w1 hJ hw ht
      match i1, ho with
      | 0, ho =>
        obtain rfl := Option.some.inj ho
        exact StepsTo.of_run (v := .slice (some ⟨w1.heap.size, 0, none⟩) 3 3) (w' := w1.alloc (.cells #[.int .u8 82, .int .u8 69, .int .u8 80] 5)) rfl (by simp only [execOp]; go_simp) ⟨⟨_, (0, 0), rfl, hJ.size, heap_alloc_new _ _⟩, fun h => absurd h (by decide), fun _ => World.grownBy_alloc _ _ _⟩
      | 1, ho =>
        obtain rfl := Option.some.inj ho
        obtain ⟨p, fr, h1, h2, h3⟩ := ht 0 (by kernel_rfl)
        have h1' : a1.eval (.tmp 8) = .slice (some ⟨p, 0, none⟩) 3 3 := h1
        exact StepsTo.of_run rfl (run_conv rfl h1' h3) ⟨holds_frozen h3, fun _ => ⟨⟨p, h2, frozen_grown _ _ _⟩, frozen_cells _ _ _, frozen_rows _ _ _⟩, fun h => absurd rfl h⟩
      | 2, ho =>
        obtain rfl := Option.some.inj ho
        have e1 : a1.eval (.tmp 1) = .pointer (some ⟨w.heap.size, 0, none⟩) := (hw 1 (by kernel_rfl))
        exact StepsTo.of_run rfl (run_fieldAddr0 rfl e1) ⟨rfl, fun h => absurd h (by decide), fun _ => World.grownBy.refl _ _⟩
      | 3, ho =>
        obtain rfl := Option.some.inj ho
        exact steps_ldd (ldd_side _ _ _) rfl (.tmp 10) rfl (ht 2 (by kernel_rfl)) (hJ.cell HC0.out (by simp)) ⟨rfl, fun h => absurd h (by decide), fun _ => World.grownBy.refl _ _⟩
      | 4, ho =>
        obtain rfl := Option.some.inj ho
        refine StepsTo.enter rfl _ _ (run_sideField rfl (ht 3 (by kernel_rfl))) (field_is la ln lc L f w1 (HSL.out.grown hJ (Slf.none' HSL.out)) HLN.out.1 HGL.out HFF.out) (fun e w' h => ?_)
        obtain ⟨a', n', c', rfl, hn, hs, hb⟩ := h
        exact ⟨_, rfl, ⟨a', n', c', rfl, hs⟩, fun h => absurd h (by decide), fun _ => below_grew7 hb⟩
      | 5, ho =>
        obtain rfl := Option.some.inj ho
        have e1 : a1.eval (.tmp 1) = .pointer (some ⟨w.heap.size, 0, none⟩) := (hw 1 (by kernel_rfl))
        exact StepsTo.of_run rfl (run_fieldAddr1 rfl e1) ⟨rfl, fun h => absurd h (by decide), fun _ => World.grownBy.refl _ _⟩
      | 6, ho =>
        obtain rfl := Option.some.inj ho
        exact steps_ldd (ldd_side _ _ _) rfl (.tmp 13) rfl (ht 5 (by kernel_rfl)) (hJ.cell HC1.out (by simp)) ⟨rfl, fun h => absurd h (by decide), fun _ => World.grownBy.refl _ _⟩
      | 7, ho =>
        obtain rfl := Option.some.inj ho
        refine StepsTo.enter rfl _ _ (run_sideField rfl (ht 6 (by kernel_rfl))) (field_is ra rn rc R g w1 (HSR.out.grown hJ (Slf.none' HSR.out)) HLN.out.2 HGR.out HGG.out) (fun e w' h => ?_)
        obtain ⟨a', n', c', rfl, hn, hs, hb⟩ := h
        exact ⟨_, rfl, ⟨a', n', c', rfl, hs⟩, fun h => absurd h (by decide), fun _ => below_grew7 hb⟩
      | 8, ho =>
        obtain rfl := Option.some.inj ho
        have e1 : a1.eval (.tmp 1) = .pointer (some ⟨w.heap.size, 0, none⟩) := (hw 1 (by kernel_rfl))
        exact StepsTo.of_run rfl (run_fieldAddr2 rfl e1) ⟨rfl, fun h => absurd h (by decide), fun _ => World.grownBy.refl _ _⟩
      | 9, ho =>
        obtain rfl := Option.some.inj ho
        exact steps_ldd (ldd_cost _) rfl (.tmp 16) rfl (ht 8 (by kernel_rfl)) (hJ.cell HC2.out (by simp)) ⟨rfl, fun h => absurd h (by decide), fun _ => World.grownBy.refl _ _⟩
      | 10, ho =>
        obtain rfl := Option.some.inj ho
        refine StepsTo.enter rfl _ _ (run_numWrite rfl (ht 9 (by kernel_rfl))) (write_any d HD.out w1) (fun e w' h => ?_)
        obtain ⟨a', n', c', rfl, hn, hs, hnil, hb⟩ := h
        exact ⟨_, rfl, ⟨a', n', c', rfl, Sl.of_owns (k := .u8) hs HDW.out hn.symm⟩, fun h => absurd h (by decide), fun _ => below_grew7 hb⟩
      | 11, ho =>
        obtain rfl := Option.some.inj ho
        have q0 := ht 1 (by kernel_rfl)
        have q1 := ht 4 (by kernel_rfl)
        have q2 := ht 7 (by kernel_rfl)
        have q3 := ht 10 (by kernel_rfl)
        obtain ⟨x0, m0, c0, e0, s0⟩ := q0
        obtain ⟨x1, m1, c1, e1, s1⟩ := q1
        obtain ⟨x2, m2, c2, e2, s2⟩ := q2
        obtain ⟨x3, m3, c3, e3, s3⟩ := q3
        have e0' : a1.eval (.tmp 9) = .slice x0 m0 c0 := e0
        have e1' : a1.eval (.tmp 12) = .slice x1 m1 c1 := e1
        have e2' : a1.eval (.tmp 15) = .slice x2 m2 c2 := e2
        have e3' : a1.eval (.tmp 18) = .slice x3 m3 c3 := e3
        exact StepsTo.of_run rfl (run_fields4 rfl e0' e1' e2' e3') ⟨⟨w1.heap.size, _, _, _, _, rfl, rowOf_new _ _ _ _ _ _, ⟨_, _, _, rfl, s0.alloc _⟩, ⟨_, _, _, rfl, s1.alloc _⟩, ⟨_, _, _, rfl, s2.alloc _⟩, ⟨_, _, _, rfl, s3.alloc _⟩⟩, fun h => absurd h (by decide), fun _ => World.grownBy_alloc _ _ _⟩
      | 12, ho =>
        obtain rfl := Option.some.inj ho
        exact StepsTo.move rfl (.tmp 19) (.inr rfl) ⟨(ht 11 (by kernel_rfl)), fun h => absurd h (by decide), fun _ => World.grownBy.refl _ _⟩
      | j1 + 13, ho => exact absurd (Array.getElem?_eq_some_iff.1 ho).1 (by simp)
    intro tm w1 hsz hJ hfr hto
    rw [act_lit2 tm (show tm.size = 23 from hsz)]
    simp only [List.range, List.range.loop, List.map_cons, List.map_nil]
    rw [hfr 0 (by kernel_rfl), hfr 1 (by kernel_rfl), hfr 2 (by kernel_rfl), hfr 3 (by kernel_rfl), hfr 5 (by kernel_rfl), hfr 6 (by kernel_rfl), hfr 7 (by kernel_rfl), hfr 20 (by kernel_rfl), hfr 21 (by kernel_rfl), hfr 22 (by kernel_rfl)]
    have t0 : ∃ p fr, (tm.getD 8 undef) = .slice (some ⟨p, 0, none⟩) 3 3 ∧ W0.heap.size ≤ p ∧ w1.heap[p]? = some (.cells #[.int .u8 82, .int .u8 69, .int .u8 80] 5 fr) := hto 0 (by decide)
    have t1 : HoldsI w1 (tm.getD 9 undef) [82, 69, 80] := hto 1 (by decide)
    have t2 : (tm.getD 10 undef) = .pointer (some ⟨w.heap.size, 0, none⟩) := hto 2 (by decide)
    have t3 : (tm.getD 11 undef) = .slice la ln lc := hto 3 (by decide)
    have t4 : HoldsI w1 (tm.getD 12 undef) f := hto 4 (by decide)
    have t5 : (tm.getD 13 undef) = .pointer (some ⟨w.heap.size, 1, none⟩) := hto 5 (by decide)
    have t6 : (tm.getD 14 undef) = .slice ra rn rc := hto 6 (by decide)
    have t7 : HoldsI w1 (tm.getD 15 undef) g := hto 7 (by decide)
    have t8 : (tm.getD 16 undef) = .pointer (some ⟨w.heap.size, 2, none⟩) := hto 8 (by decide)
    have t9 : (tm.getD 17 undef) = .int .u64 (d : Int) := hto 9 (by decide)
    have t10 : HoldsI w1 (tm.getD 18 undef) (Num.dig d) := hto 10 (by decide)
    have t11 : ∃ p v0 v1 v2 v3, (tm.getD 19 undef) = .slice (some ⟨p, 0, none⟩) 4 4 ∧ RowOf w1 p v0 v1 v2 v3 ∧ HoldsI w1 v0 [82, 69, 80] ∧ HoldsI w1 v1 f ∧ HoldsI w1 v2 g ∧ HoldsI w1 v3 (Num.dig d) := hto 11 (by decide)
    have t12 : ∃ p v0 v1 v2 v3, (tm.getD 4 undef) = .slice (some ⟨p, 0, none⟩) 4 4 ∧ RowOf w1 p v0 v1 v2 v3 ∧ HoldsI w1 v0 [82, 69, 80] ∧ HoldsI w1 v1 f ∧ HoldsI w1 v2 g ∧ HoldsI w1 v3 (Num.dig d) := hto 12 (by decide)
    clear hto
    generalize tm.getD 4 undef = y4 at *
    generalize tm.getD 8 undef = y8 at *
    generalize tm.getD 9 undef = y9 at *
    generalize tm.getD 10 undef = y10 at *
    generalize tm.getD 11 undef = y11 at *
    generalize tm.getD 12 undef = y12 at *
    generalize tm.getD 13 undef = y13 at *
    generalize tm.getD 14 undef = y14 at *
    generalize tm.getD 15 undef = y15 at *
    generalize tm.getD 16 undef = y16 at *
    generalize tm.getD 17 undef = y17 at *
    generalize tm.getD 18 undef = y18 at *
    generalize tm.getD 19 undef = y19 at *
    clear hfr hsz tm
    clear t0 t1 t2 t3 t4 t5 t6 t7 t8 t9 t10 t11
    obtain ⟨p, v0, v1, v2, v3, rfl, hrow, hh0, hh1, hh2, hh3⟩ := t12
    have HBW : Hid (Below w.heap.size w w1) := HB1.out.trans ((grown_below7 hJ).mono HB1.out.size)
    have HROW : Hid (∀ o, RowOf (w1.alloc o) p v0 v1 v2 v3) := fun o => hrow.keep (fun q x hc => (World.grownBy_alloc w1 o none).cell hc (by simp))
    have HHI : Hid (∀ o, HoldsI (w1.alloc o) v0 [82, 69, 80] ∧ HoldsI (w1.alloc o) v1 f ∧ HoldsI (w1.alloc o) v2 g ∧ HoldsI (w1.alloc o) v3 (Num.dig d)) := fun o =>
      ⟨hh0.keep (fun q x hc => (World.grownBy_alloc w1 o none).cell hc (by simp)), hh1.keep (fun q x hc => (World.grownBy_alloc w1 o none).cell hc (by simp)), hh2.keep (fun q x hc => (World.grownBy_alloc w1 o none).cell hc (by simp)), hh3.keep (fun q x hc => (World.grownBy_alloc w1 o none).cell hc (by simp))⟩
    have HBA : Hid (∀ o, Below w.heap.size w (w1.alloc o)) := fun o => HBW.out.alloc HBW.out.size o
    clear hrow hh0 hh1 hh2 hh3 hJ
    go_wp2_with fail
    refine (join4_is p v0 v1 v2 v3 f g (Num.dig d) _ _ (HROW.out _) (HHI.out _).1 (HHI.out _).2.1 (HHI.out _).2.2.1 (HHI.out _).2.2.2 (holds_new _ _) HFL.out HGLN.out HDL.out).mono ?_
    rintro e w2 ⟨b2, n2, c2, rfl, hn2, hs2, hb2⟩
    have HN2 := Lib.hid hn2
    have HS2 := Lib.hid hs2
    clear hn2 hs2
    go_wp2
    go_ret2
    refine ⟨some ⟨b2, 0, none⟩, n2, c2, rfl, by rw [HN2.out, HOUT.out], by rw [HOUT.out]; exact HS2.out, (fun h => by cases h), (HBA.out _).trans (hb2.mono (HBA.out _).size)⟩

end Go.Proofs.YtjmabjeaodojeaaGreat
