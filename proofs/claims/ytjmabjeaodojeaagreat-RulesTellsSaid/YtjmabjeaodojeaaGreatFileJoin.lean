/- Used by the law. -/
import Derived.Deep.MidRow
import Derived.RangeFuncBox
import Derived.Test.YtjmabjeaodojeaaGreatGenCells
import Derived.Test.YtjmabjeaodojeaaGreatFileHeld
namespace Go.Proofs.YtjmabjeaodojeaaGreat
open Go Go.RowKit

/-! ### rows of rules, written into -/
theorem owns_of_at {w : World} {B b n cap : Nat} {xs : List Rw} {cur : Array Value} (hl : xs.length = n) (hnc : n ≤ cap) (hcm : cap ≤ maxLen) (hat : ∀ i, i < n → RwAt w b (i * 3) (xs.getD i Rw.no)) (hb : B ≤ b) (hh : w.heap[b]? = some (.cells cur 39 (0, 0))) (hs : cur.size = cap * 3) :
    w.ownsRow B 39 3 (.slice (some ⟨b, 0, none⟩) n cap) n (rcells xs) := by
  refine ⟨by rw [rcells_length, hl], .inr ⟨b, cap, cur, rfl, hb, hh, hnc, hcm, hs, ?_⟩⟩
  refine List.ext_getElem? fun t => ?_
  by_cases ht : t < n * 3
  · rw [List.getElem?_take_of_lt ht, Array.getElem?_toList]
    obtain ⟨i, j, hi, hj, rfl⟩ : ∃ i j, i < n ∧ j < 3 ∧ t = i * 3 + j := ⟨t / 3, t % 3, by omega, by omega, by omega⟩
    rw [rcells_at xs i j (by omega) hj]
    obtain ⟨c1, c2, c3⟩ := hat i hi
    simp only [World.cell?, hh] at c1 c2 c3
    rcases (by omega : j = 0 ∨ j = 1 ∨ j = 2) with rfl | rfl | rfl
    · simpa [Rw.cells] using c1
    · simpa [Rw.cells] using c2
    · simpa [Rw.cells] using c3
  · rw [List.getElem?_eq_none (by simp; omega), List.getElem?_eq_none (by rw [rcells_length, hl]; omega)]
theorem owns_at {w : World} {B b n cap : Nat} {xs : List Rw} (h : w.ownsRow B 39 3 (.slice (some ⟨b, 0, none⟩) n cap) n (rcells xs)) (hl : xs.length = n) :
    B ≤ b ∧ n ≤ cap ∧ cap ≤ maxLen ∧ (∀ i, i < n → RwAt w b (i * 3) (xs.getD i Rw.no)) ∧ ∃ cur, w.heap[b]? = some (.cells cur 39 (0, 0)) ∧ cur.size = cap * 3 := by
  rcases h.2 with h2 | ⟨g, cap', cur, hv, hb, hh, h1, h2, h3, h4⟩
  · cases h2.1
  · simp only [Value.slice.injEq, Option.some.injEq, Addr.mk.injEq, and_true, true_and] at hv
    obtain ⟨rfl, rfl⟩ := hv
    refine ⟨hb, h1, h2, fun i hi => ?_, cur, hh, h3⟩
    have hc : ∀ j, j < 3 → w.cell? ⟨b, i * 3 + j, none⟩ = (xs.getD i Rw.no).cells[j]? := fun j hj => by
      rw [← rcells_at xs i j (by omega) hj, ← h4, List.getElem?_take_of_lt (by omega), Array.getElem?_toList]
      simp [World.cell?, hh]
    exact ⟨hc 0 (by omega), hc 1 (by omega), hc 2 (by omega)⟩
theorem rule_there {w : World} {b cap i : Nat} {cur : Array Value} (hh : w.heap[b]? = some (.cells cur 39 (0, 0))) (hs : cur.size = cap * 3) {m : Nat} (hi : i * 3 + m ≤ cap * 3) : w.there b (i * 3) m := fun j hj => by
  refine ⟨?_, by simp [World.frozen?, hh]⟩
  simp only [World.cell?, hh]
  rw [Array.getElem?_eq_getElem (by omega)]; rfl
theorem own_setRule {w : World} {B b n cap i : Nat} {xs : List Rw} {y : Rw} (h : w.ownsRow B 39 3 (.slice (some ⟨b, 0, none⟩) n cap) n (rcells xs)) (hl : xs.length = n) (hi : i < n) :
    (w.setCells b (i * 3) y.cells).ownsRow B 39 3 (.slice (some ⟨b, 0, none⟩) n cap) n (rcells (xs.set i y)) := by
  obtain ⟨hb, h1, h2, hat, cur, hh, hs⟩ := owns_at h hl
  obtain ⟨cur', hh', hs'⟩ := setCells_block b y.cells (i * 3) w cur hh
  refine owns_of_at (by simp [hl]) h1 h2 (fun k hk => ?_) hb hh' (by rw [hs', hs])
  have ho : ∀ q, (q < i * 3 ∨ i * 3 + 3 ≤ q) → (w.setCells b (i * 3) y.cells).cell? ⟨b, q, none⟩ = w.cell? ⟨b, q, none⟩ := fun q hq =>
    World.cell?_setCells_out b y.cells (i * 3) w ⟨b, q, none⟩ (fun _ _ => by simpa [Rw.cells] using hq)
  by_cases hki : k = i
  · subst hki
    have hin := World.cell?_setCells_in b y.cells (k * 3) w (fun j hj => (rule_there (i := k) (m := 3) hh hs (by omega) j (by simpa [Rw.cells] using hj)).1)
    rw [show (xs.set k y).getD k Rw.no = y by simp [hl, hi]]
    exact ⟨hin 0 (by simp [Rw.cells]), hin 1 (by simp [Rw.cells]), hin 2 (by simp [Rw.cells])⟩
  · rw [show (xs.set i y).getD k Rw.no = xs.getD k Rw.no by simp [List.getD_eq_getElem?_getD, List.getElem?_set, Ne.symm hki]]
    obtain ⟨c1, c2, c3⟩ := hat k hk
    exact ⟨by rw [ho _ (by omega)]; exact c1, by rw [ho _ (by omega)]; exact c2, by rw [ho _ (by omega)]; exact c3⟩

set_option maxRecDepth 100000 in
theorem zero_rule (w : World) : (zeroValue 39).run Tryz.prog w = .ok (.agg #[.slice none 0 0, .slice none 0 0, .int .u64 0]) w := by kernel_rfl
set_option maxRecDepth 100000 in
theorem run_clear_rules (w : World) (b o m c : Nat) (hm : 0 < m) (ht : w.there b o (m * 3)) :
    ∃ zs : List Value, ∀ ty, (Builtin.clear_ #[24] ty #[.slice (some ⟨b, o, none⟩) m c]).run Tryz.prog w = .ok (.tuple #[]) (w.setCells b o zs) := by
  refine ⟨(Builtin.zeroCells #[.slice none 0 0, .slice none 0 0, .int .u64 0] m).toList, fun ty => ?_⟩
  have hlen : (Builtin.zeroCells #[Value.slice none 0 0, .slice none 0 0, .int .u64 0] m).toList.length = m * 3 := by simp [Builtin.zeroCells]
  have hst := run_storeCells_cells (P := Tryz.prog) b o (Builtin.zeroCells #[Value.slice none 0 0, .slice none 0 0, .int .u64 0] m).toList 0 w
    (fun j hj => by simpa using (ht j (by rw [hlen] at hj; exact hj)).1) (fun j hj => by simpa using (ht j (by rw [hlen] at hj; exact hj)).2)
    (fun v hv => by
      simp only [Builtin.zeroCells, Array.toList_map, List.mem_map] at hv
      obtain ⟨q, _, rfl⟩ := hv
      have h3 : q % 3 < 3 := Nat.mod_lt _ (by omega)
      simp only [List.size_toArray, List.length_cons, List.length_nil]
      rcases (by omega : q % 3 = 0 ∨ q % 3 = 1 ∨ q % 3 = 2) with e | e | e <;> simp [e, Value.oneCell'])
  simp only [Nat.add_zero] at hst
  obtain ⟨k, rfl⟩ : ∃ k, m = k + 1 := ⟨m - 1, by omega⟩
  simp [Builtin.clear_, run_underlying Tryz.underlying24, zero_rule, Value.cells, hst]

set_option maxRecDepth 100000 in
theorem wpList_store_rule {ops : Array Oper} {rest : List Oper} {o : Oper} {a : Act} {w : World} {Q : Exit → Act → World → Prop} (hgd : o.guard = none) (p q : Operand) (ho : o.op = .store 39 p q) (b i : Nat) (y : Rw)
    (hx : a.eval p = .pointer (some ⟨b, i * 3, none⟩)) (hy : a.eval q = y.v) (ht : w.there b (i * 3) 3) (h : ∀ w', w' = w.setCells b (i * 3) y.cells → wpList Tryz.prog ops Q rest (a.put o.dst undef) w') : wpList Tryz.prog ops Q (o :: rest) a w :=
  wpList_store_mid hgd 39 p q ho b (i * 3) #[y.l, y.rt, y.c] hx hy ht (by show _ = _; kernel_rfl) (by simp [Rw.l, Rw.rt, Rw.c, Value.oneCell']) (h _ rfl)

/-! ### the closure of join, and IndexFunc -/
set_option maxRecDepth 100000 in
set_option maxHeartbeats 1600000 in
theorem joinC_is (bn : Nat) (a : Option Addr) (n cap : Nat) (xs : List Rw) (y : Rw) (r : Bool) (W : World) (hN : W.cell? ⟨bn, 0, none⟩ = some (.slice a n cap)) (hs : Rs W a n cap xs) (hn : n ≤ 20000) (hnm : nrm (ruls xs) = ruls xs) (hy : y.Good W) (hr : File.held (ruls xs) y.r = r) :
    Calls Tryz.prog 40 #[y.v, .pointer (some ⟨bn, 0, none⟩)] W fun e w' => e = .returned (.bool r) ∧ Below W.heap.size W w' := by
  have HS := Lib.hid hs
  have HY := Lib.hid hy
  have HNM := Lib.hid hnm
  have HR := Lib.hid hr
  have hNa : ∀ o, (W.alloc o).cell? ⟨bn, 0, none⟩ = some (.slice a n cap) := fun o => by rw [((Below.refl W.heap.size W).alloc (Nat.le_refl _) o).cell (p := ⟨bn, 0, none⟩) (cell_lt hN)]; exact hN
  have HB : ∀ o, Hid (Below W.heap.size W (W.alloc o) ∧ (W.alloc o).heap.size = W.heap.size + 1) := fun o => ⟨(Below.refl _ W).alloc (Nat.le_refl _) o, World.size_alloc W o⟩
  clear hs hy hnm hr hN
  simp only [Rw.v] at *
  go_enter Tryz.func40, Tryz.ntmps40
  go_wp2_with fail
  refine (isHeld_is a n cap xs y r _ (HS.out.alloc _) hn HNM.out (HY.out.alloc _) HR.out).mono ?_
  rintro e w1 ⟨rfl, hb⟩
  have HB1 : Hid (Below W.heap.size W w1) := (HB _).out.1.trans (hb.mono (by rw [(HB _).out.2]; omega))
  clear hb
  go_wp2
  go_ret
  exact ⟨rfl, HB1.out⟩

theorem not_in {l : List Rul} {p : Rul → Bool} {j : Nat} {z : Rul} (h : ∀ y ∈ l.take j, p y = false) (hj : j < l.length) (hz : l.getD j Rul.no = z) (hp : p z = false) : ∀ y ∈ l.take (j + 1), p y = false := by
  intro y hy
  rw [List.take_succ_eq_append_getElem hj] at hy
  rcases List.mem_append.1 hy with hy | hy
  · exact h y hy
  · rw [List.mem_singleton.1 hy]
    rw [List.getD_eq_getElem?_getD, List.getElem?_eq_getElem hj, Option.getD_some] at hz
    rw [hz]; exact hp

set_option maxRecDepth 100000 in
set_option maxHeartbeats 3200000 in
theorem indexFunc_is (g bn : Nat) (p : Rul → Bool) (a : Option Addr) (n cap : Nat) (xs : List Rw) (w : World) (eg : ∀ args w, (callFunc g args).run Tryz.prog w = .ok (.enter g args) w) (hs : Rs w a n cap xs)
    (hf : ∀ (y : Rw) (W : World), y.Good W → Below w.heap.size w W → Calls Tryz.prog g #[y.v, .pointer (some ⟨bn, 0, none⟩)] W fun e w' => e = .returned (.bool (p y.r)) ∧ Below W.heap.size W w') :
    Calls Tryz.prog 68 #[.slice a n cap, .func (.func g) #[] #[.pointer (some ⟨bn, 0, none⟩)]] w fun e w' => ∃ r : Int, e = .returned (.int .i64 r) ∧ Below w.heap.size w w' ∧
      ((r = -1 ∧ ∀ z ∈ ruls xs, p z = false) ∨ ∃ k : Nat, k < n ∧ r = (k : Int) ∧ (∀ z ∈ (ruls xs).take k, p z = false) ∧ p ((ruls xs).getD k Rul.no) = true) := by
  have hnc := hs.2.1
  have hcm := hs.2.2.1
  unfold maxLen at hcm
  have HS := Lib.hid hs
  have HXL : Hid ((ruls xs).length = n) := by show _ = _; rw [ruls_length, hs.1]
  have HF := Lib.hid hf
  clear hs hf
  go_enter Tryz.func68, Tryz.ntmps68
  go_wp2
  go_loopw [8] (fun ix wr => ∃ j : Nat, j ≤ n ∧ ix = .int .i64 (j : Int) ∧ Hid (∀ z ∈ (ruls xs).take j, p z = false) ∧ Hid (Below w.heap.size w wr)) (fun ix _ => n - (intOf ix).toNat)
  case atStart => exact ⟨0, Nat.zero_le _, rfl, (by intro z hz; simp at hz), Below.refl _ _⟩
  case round =>
    obtain ⟨j, hj, rfl, HT, HBW⟩ := hrel
    by_cases hlt : j < n
    · obtain ⟨b1, o1, la, ln, lc, LL, ra, rn, rc, RR, C, rfl, hb1, hx1, hx2, hx3, hsl, hsr, hC0, hC1, hz1⟩ := HS.out.one j hlt
      have hB := HBW.out
      have hx1' : wr.cell? ⟨b1, o1 + j * 3, none⟩ = some (.slice la ln lc) := by rw [hB.cell (p := ⟨b1, o1 + j * 3, none⟩) hb1]; exact hx1
      have hx2' : wr.cell? ⟨b1, o1 + j * 3 + 1, none⟩ = some (.slice ra rn rc) := by rw [hB.cell (p := ⟨b1, o1 + j * 3 + 1, none⟩) hb1]; exact hx2
      have hx3' : wr.cell? ⟨b1, o1 + j * 3 + 2, none⟩ = some (.int .u64 C) := by rw [hB.cell (p := ⟨b1, o1 + j * 3 + 2, none⟩) hb1]; exact hx3
      have hc := HF.out ⟨la, ln, lc, LL, ra, rn, rc, RR, C⟩ wr (Rw.Good.below (w := w) ⟨hsl, hsr, hC0, hC1⟩ hB (Nat.le_refl _)) hB
      obtain ⟨q, hq⟩ : ∃ q, p ⟨LL, RR, C⟩ = q := ⟨_, rfl⟩
      rw [show (⟨la, ln, lc, LL, ra, rn, rc, RR, C⟩ : Rw).r = ⟨LL, RR, C⟩ from rfl, hq] at hc
      have HCL := Lib.hid hc
      have HQ := Lib.hid hq
      have HZ : Hid ((ruls xs).getD j Rul.no = ⟨LL, RR, C⟩) := by show _ = _; rw [ruls_at, hz1]; rfl
      have hlti : (j : Int) < (n : Int) := by omega
      clear hsl hsr hz1 hq hc hx1 hx2 hx3 hB
      go_wp2_with fail
      refine HCL.out.mono ?_
      rintro e w1 ⟨rfl, hb⟩
      have HB1 : Hid (Below w.heap.size w w1) := HBW.out.trans (hb.mono HBW.out.size)
      clear hb HCL
      cases q
      · go_wp2
        go_roundw
        case rel => exact ⟨j + 1, by omega, by go_num, not_in HT.out (by rw [HXL.out]; exact hlt) HZ.out HQ.out, HB1.out⟩
        case measure => simp [intOf]; omega
      · go_wp2
        go_ret
        exact ⟨(j : Int), rfl, HB1.out, .inr ⟨j, hlt, rfl, HT.out, by rw [HZ.out]; exact HQ.out⟩⟩
    · obtain rfl : j = n := by omega
      have HALL : Hid (∀ z ∈ ruls xs, p z = false) := by
        have h := HT.out
        rw [List.take_of_length_le (by rw [HXL.out]; exact Nat.le_refl _)] at h
        exact h
      go_wp2
      go_ret
      exact ⟨-1, rfl, HBW.out, .inl ⟨rfl, HALL.out⟩⟩

/-! ### DeleteFunc -/
def Kept (w wr : World) (B b n cap : Nat) (xs : List Rw) (p : Rul → Bool) (i j : Nat) (ys : List Rw) : Prop :=
  wr.ownsRow B 39 3 (.slice (some ⟨b, 0, none⟩) n cap) n (rcells ys) ∧ ys.length = n ∧ w.grownBy wr (some b) ∧ ruls (ys.take i) = ((ruls xs).take j).filter (fun z => !p z) ∧ ys.drop j = xs.drop j ∧ ∀ y ∈ ys, y ∈ xs

set_option maxRecDepth 100000 in
theorem kept_start {w w1 : World} {B b n cap : Nat} {xs : List Rw} {p : Rul → Bool} {k : Nat} (hown : w.ownsRow B 39 3 (.slice (some ⟨b, 0, none⟩) n cap) n (rcells xs)) (hl : xs.length = n) (hb : Below w.heap.size w w1) (hk : k < n)
    (h1 : ∀ z ∈ (ruls xs).take k, p z = false) (h2 : p ((ruls xs).getD k Rul.no) = true) : Kept w w1 B b n cap xs p k (k + 1) xs := by
  have hkl : k < (ruls xs).length := by rw [ruls_length, hl]; exact hk
  refine ⟨ownsRow_below hown hb (Nat.le_refl _), hl, ⟨hb.os, hb.tape, hb.output, hb.size, fun q hq _ => hb.block q hq⟩, ?_, rfl, fun y hy => hy⟩
  rw [List.take_succ_eq_append_getElem hkl, List.filter_append]
  have e1 : ((ruls xs).take k).filter (fun z => !p z) = (ruls xs).take k := List.filter_eq_self.2 fun z hz => by rw [h1 z hz]; rfl
  rw [List.getD_eq_getElem?_getD, List.getElem?_eq_getElem hkl, Option.getD_some] at h2
  rw [e1, List.filter_cons_of_neg (by rw [h2]; decide), List.filter_nil, List.append_nil]
  unfold ruls
  rw [List.map_take]
set_option maxRecDepth 100000 in
theorem Kept.skip {w wr wr' : World} {B b n cap : Nat} {xs ys : List Rw} {p : Rul → Bool} {i j : Nat} (h : Kept w wr B b n cap xs p i j ys) (hb : Below wr.heap.size wr wr') (hj : j < xs.length) (hp : p (xs.getD j Rw.no).r = true) : Kept w wr' B b n cap xs p i (j + 1) ys := by
  obtain ⟨h1, h2, h3, h4, h5, h6⟩ := h
  have hjl : j < (ruls xs).length := by rw [ruls_length]; exact hj
  refine ⟨ownsRow_below h1 hb (Nat.le_refl _), h2, h3.trans ⟨hb.os, hb.tape, hb.output, hb.size, fun q hq _ => hb.block q hq⟩, ?_, ?_, h6⟩
  · rw [h4, List.take_succ_eq_append_getElem hjl, List.filter_append]
    have e : (ruls xs)[j] = (xs.getD j Rw.no).r := by rw [← ruls_at, List.getD_eq_getElem?_getD, List.getElem?_eq_getElem hjl]; rfl
    rw [e, List.filter_cons_of_neg (by rw [hp]; decide)]; simp
  · have := congrArg (List.drop 1) h5
    simpa [List.drop_drop, Nat.add_comm] using this
set_option maxRecDepth 100000 in
theorem Kept.keep {w wr wr' : World} {B b n cap : Nat} {xs ys : List Rw} {p : Rul → Bool} {i j : Nat} {y : Rw} (h : Kept w wr B b n cap xs p i j ys) (hb : Below wr.heap.size wr wr') (hij : i < j) (hj : j < n) (hxl : xs.length = n) (hy : xs.getD j Rw.no = y) (hp : p y.r = false) :
    Kept w (wr'.setCells b (i * 3) y.cells) B b n cap xs p (i + 1) (j + 1) (ys.set i y) := by
  obtain ⟨h1, h2, h3, h4, h5, h6⟩ := h
  have hjl : j < (ruls xs).length := by rw [ruls_length, hxl]; exact hj
  have hyx : y ∈ xs := by rw [← hy, List.getD_eq_getElem?_getD, List.getElem?_eq_getElem (by omega), Option.getD_some]; exact List.getElem_mem _
  refine ⟨own_setRule (ownsRow_below h1 hb (Nat.le_refl _)) h2 (by omega), by simp [h2], (h3.trans ⟨hb.os, hb.tape, hb.output, hb.size, fun q hq _ => hb.block q hq⟩).trans (setCells_grown b _ _ wr').1, ?_, ?_, ?_⟩
  · rw [List.take_succ_eq_append_getElem hjl, List.filter_append, ← h4]
    have e : (ruls xs)[j] = y.r := by rw [← hy, ← ruls_at, List.getD_eq_getElem?_getD, List.getElem?_eq_getElem hjl]; rfl
    rw [e, List.filter_cons_of_pos (by rw [hp]; decide), List.filter_nil, List.take_succ_eq_append_getElem (by simp; omega), ruls_app]
    congr 1
    · rw [List.take_set_of_le (Nat.le_refl _)]
    · simp [ruls]
  · rw [List.drop_set_of_lt (by omega)]
    have := congrArg (List.drop 1) h5
    simpa [List.drop_drop, Nat.add_comm] using this
  · intro z hz
    rcases List.mem_or_eq_of_mem_set hz with hz | rfl
    · exact h6 z hz
    · exact hyx

set_option maxHeartbeats 6400000 in
set_option maxRecDepth 100000 in
theorem deleteFunc_is (g bn : Nat) (p : Rul → Bool) (B : Nat) (a : Option Addr) (n cap : Nat) (xs : List Rw) (w : World) (eg : ∀ args w, (callFunc g args).run Tryz.prog w = .ok (.enter g args) w)
    (hown : w.ownsRow B 39 3 (.slice a n cap) n (rcells xs)) (hl : xs.length = n) (hg : ∀ x ∈ xs, x.Good w) (hfar : ∀ x ∈ xs, x.Far (Value.slice a n cap).ownBlock)
    (hf : ∀ (y : Rw) (W : World), y.Good W → w.grownBy W (Value.slice a n cap).ownBlock → Calls Tryz.prog g #[y.v, .pointer (some ⟨bn, 0, none⟩)] W fun e w' => e = .returned (.bool (p y.r)) ∧ Below W.heap.size W w') :
    Calls Tryz.prog 39 #[.slice a n cap, .func (.func g) #[] #[.pointer (some ⟨bn, 0, none⟩)]] w fun e w' => ∃ m ys, e = .returned (.slice a m cap) ∧ m ≤ n ∧ Rs w' a m cap ys ∧ ruls ys = (ruls xs).filter (fun z => !p z) ∧ w.grownBy w' (Value.slice a n cap).ownBlock ∧ ∀ y ∈ ys, y ∈ xs := by
  have hs : Rs w a n cap xs := Rs.of_owns hown hg hl
  have hnc := hs.2.1
  have hcm := hs.2.2.1
  unfold maxLen at hcm
  have HS := Lib.hid hs
  have HOWN := Lib.hid hown
  have HL := Lib.hid hl
  have HG := Lib.hid hg
  have HFAR := Lib.hid hfar
  have HF := Lib.hid hf
  have HF2 : Hid (∀ (y : Rw) (W : World), y.Good W → Below w.heap.size w W → Calls Tryz.prog g #[y.v, .pointer (some ⟨bn, 0, none⟩)] W fun e w' => e = .returned (.bool (p y.r)) ∧ Below W.heap.size W w') :=
    fun y W h hb => hf y W h ⟨hb.os, hb.tape, hb.output, hb.size, fun q hq _ => hb.block q hq⟩
  have HEG := Lib.hid eg
  clear hs hown hl hg hfar hf
  go_enter Tryz.func39, Tryz.ntmps39
  go_wp2_with fail
  refine (indexFunc_is g bn p a n cap xs w HEG.out HS.out HF2.out).mono ?_
  rintro e w1 ⟨r, rfl, hb1, ⟨rfl, hnone⟩ | ⟨k, hk, rfl, hk1, hk2⟩⟩
  · have HB1 := Lib.hid hb1
    have HN := Lib.hid hnone
    clear hb1 hnone
    go_wp2
    go_ret
    exact ⟨n, xs, rfl, Nat.le_refl _, HS.out.below HB1.out (Nat.le_refl _), (List.filter_eq_self.2 fun z hz => by rw [HN.out z hz]; rfl).symm, ⟨HB1.out.os, HB1.out.tape, HB1.out.output, HB1.out.size, fun q hq _ => HB1.out.block q hq⟩, fun y hy => hy⟩
  · obtain ⟨b, rfl⟩ : ∃ b, a = some ⟨b, 0, none⟩ := by
      rcases HOWN.out.2 with h2 | ⟨g', cap', cur, hv, _⟩
      · cases h2.1; omega
      · simp only [Value.slice.injEq] at hv
        exact ⟨g', hv.1⟩
    have HST : Hid (Kept w w1 B b n cap xs p k (k + 1) xs) := kept_start HOWN.out HL.out hb1 hk hk1 hk2
    have HI3 : Hid ((Tryz.prog.info? 39).map (·.size) = some 3) := by show _ = _; kernel_rfl
    have hne : ((k : Int) == -1) = false := beq_eq_false_iff_ne.2 (by omega)
    clear hb1 hk1 hk2 HF2
    go_wp2
    go_loopw [5, 6] (fun s5 s6 wr => ∃ (i j : Nat) (ys : List Rw), s5 = .int .i64 (i : Int) ∧ s6 = .int .i64 (j : Int) ∧ i < j ∧ j ≤ n ∧ Hid (Kept w wr B b n cap xs p i j ys)) (fun _ s6 _ => n - (intOf s6).toNat)
    case atStart => exact ⟨k, k + 1, xs, rfl, by first | rfl | go_num, by omega, by omega, HST.out⟩
    case round =>
      obtain ⟨i, j, ys, rfl, rfl, hij, hjn, HK⟩ := hrel
      by_cases hlt : j < n
      · obtain ⟨h1, h2, h3, h4, h5, h6⟩ := HK.out
        have hgr : ∀ x ∈ xs, x.Good wr := fun x hx => (HG.out x hx).grown h3 (HFAR.out x hx)
        obtain ⟨-, -, -, hat, -⟩ := owns_at h1 h2
        obtain ⟨y, hy⟩ : ∃ y, xs.getD j Rw.no = y := ⟨_, rfl⟩
        have hyy : ys.getD j Rw.no = y := by
          have e1 : (ys.drop j).getD 0 Rw.no = (xs.drop j).getD 0 Rw.no := by rw [h5]
          rw [← hy]
          simpa [List.getD_eq_getElem?_getD, List.getElem?_drop] using e1
        have hyx : y ∈ xs := by rw [← hy, List.getD_eq_getElem?_getD, List.getElem?_eq_getElem (by rw [HL.out]; exact hlt), Option.getD_some]; exact List.getElem_mem _
        obtain ⟨hx1, hx2, hx3⟩ := hat j hlt
        rw [hyy] at hx1 hx2 hx3
        have hbw : b < wr.heap.size := cell_lt hx1
        have HGY : Hid (y.Good wr) := hgr y hyx
        have HY := Lib.hid hy
        have HGRW := Lib.hid h3
        have hlti : (j : Int) < (n : Int) := by omega
        have HBA : ∀ ob, Hid (Below wr.heap.size wr (wr.alloc ob) ∧ (wr.alloc ob).heap.size = wr.heap.size + 1) := fun ob => ⟨(Below.refl _ wr).alloc (Nat.le_refl _) ob, World.size_alloc wr ob⟩
        have HCALL : ∀ ob, Hid (Calls Tryz.prog g #[y.v, .pointer (some ⟨bn, 0, none⟩)] (wr.alloc ob) fun e w' => e = .returned (.bool (p y.r)) ∧ Below (wr.alloc ob).heap.size (wr.alloc ob) w') := fun ob => HF.out y (wr.alloc ob) (HGY.out.alloc ob) (HGRW.out.trans (World.grownBy_alloc wr ob _))
        have HBOX : ∀ ob w2, ob = Obj.cells #[y.l, y.rt, y.c] 39 (0, 0) → Below (wr.alloc ob).heap.size (wr.alloc ob) w2 → Hid (RwAt w2 wr.heap.size 0 y) := fun ob w2 hob hb => by subst hob; exact (RwAt.new wr y _).below hb (Nat.le_refl _)
        clear h1 h2 h3 h4 h5 h6 hat hyy hyx hgr hy
        obtain ⟨q, hq⟩ : ∃ q, p y.r = q := ⟨_, rfl⟩
        have HQ := Lib.hid hq
        rw [hq] at HCALL
        clear hq
        obtain ⟨ya, ym, yc, YL, za, zm, zc, ZR, D⟩ := y
        simp only [Rw.l, Rw.rt, Rw.c, Rw.v] at hx1 hx2 hx3 HBOX HCALL
        go_wp2_with fail
        refine (HCALL _).out.mono ?_
        rintro e w2 ⟨rfl, hb2⟩
        have HB2 : Hid (Below wr.heap.size wr w2) := (HBA _).out.1.trans (hb2.mono (by rw [(HBA _).out.2]; omega))
        obtain ⟨hk1, hk2, hk3⟩ := (HBOX _ w2 rfl hb2).out
        simp only [Rw.l, Rw.rt, Rw.c] at hk1 hk2 hk3
        clear hb2
        cases q
        · obtain ⟨-, -, -, -, cur, hcur, hcs⟩ := owns_at (ownsRow_below HK.out.1 HB2.out (Nat.le_refl _)) HK.out.2.1
          have HTH : Hid (w2.there b (i * 3) 3) := rule_there hcur hcs (by omega)
          have hii : (i : Int) < (n : Int) := by omega
          clear hcur hcs
          go_wp2_with (refine wpList_store_rule (by rfl) (.tmp 33) (.tmp 32) (by rfl) b i ⟨ya, ym, yc, YL, za, zm, zc, ZR, D⟩ (by rfl) (by rfl) HTH.out ?_
                       intro w3 hw3
                       have HW3 := Lib.hid hw3
                       clear hw3)
          go_roundw
          case rel => exact ⟨i + 1, j + 1, ys.set i ⟨ya, ym, yc, YL, za, zm, zc, ZR, D⟩, by go_num, by go_num, by omega, by omega, by have h := HK.out.keep HB2.out hij hlt HL.out HY.out HQ.out; rw [← HW3.out] at h; exact h⟩
          case measure => simp [intOf]; omega
        · go_wp2
          go_roundw
          case rel => exact ⟨i, j + 1, ys, rfl, by go_num, by omega, by omega, HK.out.skip HB2.out (by rw [HL.out]; exact hlt) (by rw [HY.out]; exact HQ.out)⟩
          case measure => simp [intOf]; omega
      · obtain rfl : j = n := by omega
        obtain ⟨-, -, -, -, cur, hcur, hcs⟩ := owns_at HK.out.1 HK.out.2.1
        obtain ⟨zs, hcl⟩ := run_clear_rules wr b (i * 3) (j - i) (cap - i) (by omega) (rule_there hcur hcs (by omega))
        clear hcur hcs
        go_wp2
        go_ret
        obtain ⟨h1, h2, h3, h4, h5, h6⟩ := HK.out
        obtain ⟨-, -, hcap, hat, -⟩ := owns_at h1 h2
        have hgr := h3.trans (setCells_grown b zs (i * 3) wr).1
        refine ⟨i, ys.take i, rfl, by omega, ⟨by rw [List.length_take, h2]; omega, by omega, hcap, fun x hx => ?_, .inr ⟨b, 0, rfl, fun q hq => ?_⟩⟩, ?_, hgr, fun y hy => h6 y (List.mem_of_mem_take hy)⟩
        · exact (HG.out x (h6 x (List.mem_of_mem_take hx))).grown hgr (HFAR.out x (h6 x (List.mem_of_mem_take hx)))
        · have ho : ∀ t, t < i * 3 → (wr.setCells b (i * 3) zs).cell? ⟨b, t, none⟩ = wr.cell? ⟨b, t, none⟩ := fun t ht =>
            World.cell?_setCells_out b zs (i * 3) wr ⟨b, t, none⟩ (fun _ _ => .inl ht)
          obtain ⟨c1, c2, c3⟩ := hat q (by omega)
          rw [show (ys.take i).getD q Rw.no = ys.getD q Rw.no by simp [List.getD_eq_getElem?_getD, List.getElem?_take, hq], Nat.zero_add]
          exact ⟨by rw [ho _ (by omega)]; exact c1, by rw [ho _ (by omega)]; exact c2, by rw [ho _ (by omega)]; exact c3⟩
        · rw [h4, List.take_of_length_le (by rw [ruls_length, HL.out]; exact Nat.le_refl _)]

/-! ### join -/
set_option maxHeartbeats 6400000 in
set_option maxRecDepth 100000 in
theorem join_is (B : Nat) (a : Option Addr) (n cap : Nat) (xs : List Rw) (a2 : Option Addr) (n2 cap2 : Nat) (ys : List Rw) (w : World) (hown : w.ownsRow B 39 3 (.slice a n cap) n (rcells xs)) (hl : xs.length = n) (hg : ∀ x ∈ xs, x.Good w)
    (hfo : ∀ x ∈ xs, x.Far (Value.slice a n cap).ownBlock) (hne : ∀ b, (Value.slice a2 n2 cap2).ownBlock = some b → (Value.slice a n cap).ownBlock ≠ some b) (hfar : ∀ b, (Value.slice a2 n2 cap2).ownBlock = some b → ∀ x ∈ xs, x.Far (some b)) (hn : n ≤ 200) (hnm : nrm (ruls xs) = ruls xs) (hnil : a = none → cap = 0)
    (hown2 : w.ownsRow B 39 3 (.slice a2 n2 cap2) n2 (rcells ys)) (hl2 : ys.length = n2) (hg2 : ∀ y ∈ ys, y.Good w) (hfar2 : ∀ y ∈ ys, y.Far (Value.slice a2 n2 cap2).ownBlock) (hfar3 : ∀ b, (Value.slice a n cap).ownBlock = some b → ∀ y ∈ ys, y.Far (some b)) (hn2 : n2 ≤ 15000) (hB : B ≤ w.heap.size) :
    Calls Tryz.prog 15 #[.slice a n cap, .slice a2 n2 cap2] w fun e w' => ∃ m a' c' zs, e = .returned (.slice a' m c') ∧ Rs w' a' m c' zs ∧ w'.ownsRow B 39 3 (.slice a' m c') m (rcells zs) ∧ ruls zs = nrm (ruls xs ++ ruls ys) ∧ (a' = none → c' = 0) ∧ Below B w w' ∧ ∀ x ∈ zs, x.Far (Value.slice a' m c').ownBlock := by
  have HL := Lib.hid hl
  have HFO := Lib.hid hfo
  have HNM := Lib.hid hnm
  have HOWN2 := Lib.hid hown2
  have HL2 := Lib.hid hl2
  have HG2 := Lib.hid hg2
  have HFAR2 := Lib.hid hfar2
  have HFAR3 : Hid (∀ (V : World), ∀ y ∈ ys, y.Good V → y.Far (Value.slice a n cap).ownBlock) := fun V y hy hv => by
    cases hob : (Value.slice a n cap).ownBlock with
    | none => exact hv.none
    | some k => exact hfar3 k hob y hy
  have HBW := Lib.hid hB
  have HNIL := Lib.hid hnil
  have eg : ∀ args w, (callFunc 40 args).run Tryz.prog w = .ok (.enter 40 args) w := enters_of Tryz.func40 (by kernel_rfl) rfl
  have HEG := Lib.hid eg
  have HNEWS : Hid (nrm (ruls xs ++ (ruls ys).filter fun z => !File.held (ruls xs) z) = nrm (ruls xs ++ ruls ys)) := File.nrm_news hnm _
  have HAL : ∀ ob, Hid (w.grownBy (w.alloc ob) none ∧ Below w.heap.size w (w.alloc ob)) := fun ob => ⟨World.grownBy_alloc w ob none, (Below.refl _ w).alloc (Nat.le_refl _) ob⟩
  have HK : ∀ ob W, ob = Obj.cells #[.slice a n cap] 24 (0, 0) → (w.alloc ob).grownBy W (Value.slice a2 n2 cap2).ownBlock →
      Hid (W.cell? ⟨w.heap.size, 0, none⟩ = some (.slice a n cap) ∧ W.ownsRow B 39 3 (.slice a n cap) n (rcells xs) ∧ (∀ x ∈ xs, x.Good W) ∧ Below B w W) := fun ob W hob hgr => by
    have hsz : (w.alloc ob).heap.size = w.heap.size + 1 := World.size_alloc w ob
    have hwa := World.grownBy_alloc w ob none
    have h2 : ∀ b, (Value.slice a2 n2 cap2).ownBlock = some b → B ≤ b ∧ b < w.heap.size := fun b hb => hown2.lt b hb
    refine ⟨?_, ?_, fun x hx => ?_, ?_⟩
    · have hh : W.heap[w.heap.size]? = some ob := (hgr.block _ (by omega) (fun e => by have := h2 _ e.symm; omega)).trans (heap_alloc_new w ob)
      subst hob
      simp [World.cell?, hh]
    · refine (hown.kept hwa (by cases (Value.slice a n cap).ownBlock <;> simp)).kept hgr ?_
      cases h3 : (Value.slice a2 n2 cap2).ownBlock with
      | none => cases (Value.slice a n cap).ownBlock <;> simp
      | some b => exact .inr (hne b h3)
    · have hx' := (hg x hx).alloc ob
      refine hx'.grown hgr ?_
      cases h3 : (Value.slice a2 n2 cap2).ownBlock with
      | none => exact hx'.none
      | some b => exact hfar b h3 x hx
    · exact ((Below.refl B w).alloc hB ob).grown hgr (by omega) (fun k hk => (h2 k hk).1)
  clear hown hl hg hfar hnm hown2 hl2 hg2 hfar2 hfar3 hB hnil eg hfo hne
  go_enter Tryz.func15, Tryz.ntmps15
  go_wp2_with fail
  refine (deleteFunc_is 40 w.heap.size (File.held (ruls xs)) B a2 n2 cap2 ys _ HEG.out (ownsRow_below HOWN2.out (HAL _).out.2 (Nat.le_refl _)) HL2.out (fun y hy => (HG2.out y hy).alloc _) HFAR2.out (fun y W hy hgr => ?_)).mono ?_
  · obtain ⟨k1, k2, k3, k4⟩ := (HK _ W rfl hgr).out
    exact joinC_is w.heap.size a n cap xs y _ W k1 (Rs.of_owns k2 k3 HL.out) (by omega) HNM.out hy rfl
  rintro e w1 ⟨m, zs, rfl, hm, hzs, hru, hgr, hsub⟩
  obtain ⟨hc1, k2, k3, k4⟩ := (HK _ w1 rfl hgr).out
  have HZS := Lib.hid hzs
  have HRU := Lib.hid hru
  have HSUB := Lib.hid hsub
  have HOWN1 := Lib.hid k2
  have HG1 := Lib.hid k3
  have HB1 := Lib.hid k4
  clear hzs hru hgr hsub k2 k3 k4 HK HAL
  rcases Nat.eq_zero_or_pos m with rfl | hm0
  · have hz0 : zs = [] := List.eq_nil_of_length_eq_zero HZS.out.1
    subst hz0
    have HEND : Hid (ruls xs = nrm (ruls xs ++ ruls ys)) := by
      show _ = _
      rw [← HNEWS.out, ← HRU.out]
      show _ = nrm (ruls xs ++ [])
      rw [List.append_nil]; exact HNM.out.symm
    go_wp2
    go_ret
    exact ⟨n, a, cap, xs, rfl, Rs.of_owns HOWN1.out HG1.out HL.out, HOWN1.out, HEND.out, HNIL.out, HB1.out, HFO.out⟩
  · have hmz : ((m : Int) == 0) = false := beq_eq_false_iff_ne.2 (by omega)
    obtain ⟨N, hN⟩ : ∃ N, n + m = N := ⟨_, rfl⟩
    have HZ1 : Hid (B ≤ w1.heap.size) := Nat.le_trans HBW.out HB1.out.size
    go_wp2_with (at_builtin; refine append_rules (by rfl) (.tmp 13) (.tmp 14) (by rfl) B _ n xs (by rfl) HOWN1.out a2 m cap2 zs (by rfl) HZS.out N hN (by omega) HZ1.out ?_
                 intro a3 c3 w2 hown3 hb2 hgr2 hnil3
                 have HGX : Hid (∀ x ∈ xs ++ zs, x.Good w2) := fun x hx => by
                   rcases List.mem_append.1 hx with hx | hx
                   · exact (HG1.out x hx).grown hgr2 (HFO.out x hx)
                   · have hz := HZS.out.2.2.2.1 x hx
                     exact hz.grown hgr2 (HFAR3.out w1 x (HSUB.out x hx) hz)
                 have HRS3 : Hid (Rs w2 a3 N c3 (xs ++ zs)) := Rs.of_owns hown3 HGX.out (by rw [List.length_append, HL.out, HZS.out.1, hN])
                 have HB2 : Hid (Below B w w2) := HB1.out.trans hb2
                 clear hown3 hb2 hgr2 hnil3)
    refine (norm_own a3 N c3 (xs ++ zs) w2 HRS3.out (by omega)).mono ?_
    rintro e w3 ⟨a4, n4, c4, outs, rfl, hrs, hro, hn4, hnil4, hb3, hown4, hfo4, _⟩
    have HRS4 := Lib.hid hrs
    have HOWN4 : Hid (w3.ownsRow B 39 3 (.slice a4 n4 c4) n4 (rcells outs)) := own_mono hown4 (Nat.le_trans HBW.out HB2.out.size)
    have HRO : Hid (ruls outs = nrm (ruls xs ++ ruls ys)) := by
      show _ = _
      rw [hro, ← HNEWS.out, ← HRU.out, ruls_app]
    have HNIL4 := Lib.hid hnil4
    have HB3 : Hid (Below B w w3) := HB2.out.trans (hb3.mono (Nat.le_trans HBW.out HB2.out.size))
    have HFO4 := Lib.hid hfo4
    clear hrs hown4 hro hnil4 hb3 hfo4 hn4
    go_wp2
    go_ret
    exact ⟨n4, a4, c4, outs, rfl, HRS4.out, HOWN4.out, HRO.out, HNIL4.out, HB3.out, HFO4.out⟩

end Go.Proofs.YtjmabjeaodojeaaGreat
