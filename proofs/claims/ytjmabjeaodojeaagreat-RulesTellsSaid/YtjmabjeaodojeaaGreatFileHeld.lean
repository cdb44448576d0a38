/- Used by the law. -/
import Derived.Test.YtjmabjeaodojeaaGreatPackN
import Derived.Test.YtjmabjeaodojeaaGreatSpecWriteW
import Derived.Test.YtjmabjeaodojeaaGreatPackI
namespace Go.Proofs.YtjmabjeaodojeaaGreat
open Go Go.RowKit

section
variable {o : Oper} {a : Act} {w : World} {x y z : Operand} {ts : Array TypeId} {u v : Value}
set_option maxRecDepth 100000 in
theorem run_lessR8 (ho : o.op = .call { callee := .value (.func 71), args := #[x, y], argTypes := ts }) (hx : a.eval x = u) (hy : a.eval y = v) : (execOp a.eval o).run Tryz.prog w = .ok (.enter 71 #[u, v]) w := by
  subst hx hy
  simp only [execOp, ho]
  go_simp
set_option maxRecDepth 100000 in
theorem run_sides8 (ho : o.op = .call { callee := .value (.func 72), args := #[x, y], argTypes := ts }) (hx : a.eval x = u) (hy : a.eval y = v) : (execOp a.eval o).run Tryz.prog w = .ok (.enter 72 #[u, v]) w := by
  subst hx hy
  simp only [execOp, ho]
  go_simp
set_option maxRecDepth 100000 in
theorem run_lenR {p : Nat} {q : Option Addr} {n c : Nat} (ho : o.op = .call { callee := .builtin .len, args := #[.tmp p], argTypes := #[24] }) (hx : a.eval (.tmp p) = .slice q n c) : (execOp a.eval o).run Tryz.prog w = .ok (.value (.int .i64 (n : Int))) w := by
  have hx' : a.tmps[p]?.getD undef = .slice q n c := by simpa [Act.eval] using hx
  simp only [execOp, ho]
  go_simp
set_option maxRecDepth 100000 in
theorem run_lssI {m n : Int} (ho : o.op = .binOp .lss 3 x y 3) (hx : a.eval x = .int .i64 m) (hy : a.eval y = .int .i64 n) : (execOp a.eval o).run Tryz.prog w = .ok (.value (.bool (decide (m < n)))) w := by
  simp only [execOp, ho, hx, hy]
  go_simp
set_option maxRecDepth 100000 in
theorem run_leqU {m n : Int} (ho : o.op = .binOp .leq 23 x y 23) (hx : a.eval x = .int .u64 m) (hy : a.eval y = .int .u64 n) : (execOp a.eval o).run Tryz.prog w = .ok (.value (.bool (decide (m ≤ n)))) w := by
  simp only [execOp, ho, hx, hy]
  go_simp
set_option maxRecDepth 100000 in
theorem run_faddrR {g k : Nat} (ho : o.op = .fieldAddr 39 x 2) (hx : a.eval x = .pointer (some ⟨g, k, none⟩)) : (execOp a.eval o).run Tryz.prog w = .ok (.value (.pointer (some ⟨g, k + 2, none⟩))) w := by
  simp only [execOp, ho, hx]; go_simp
end

set_option maxRecDepth 100000 in
set_option maxHeartbeats 1600000 in
theorem search_is (g n : Nat) (cb : Array Value) (p : Nat → Bool) (w : World) (eg : ∀ args w, (callFunc g args).run Tryz.prog w = .ok (.enter g args) w) (hn : n ≤ 4611686018427387904)
    (hf : ∀ (i : Nat) (W : World), i < n → Below w.heap.size w W → Calls Tryz.prog g (#[.int .i64 (i : Int)] ++ cb) W fun e w' => e = .returned (.bool (p i)) ∧ Below W.heap.size W w')
    (hmono : ∀ s t, s ≤ t → t < n → p s = true → p t = true) :
    Calls Tryz.prog 69 #[.int .i64 (n : Int), .func (.func g) #[] cb] w fun e w' => ∃ k : Nat, e = .returned (.int .i64 (k : Int)) ∧ k ≤ n ∧ (∀ t, t < k → p t = false) ∧ (k < n → p k = true) ∧ Below w.heap.size w w' := by
  have HF := Lib.hid hf
  have HM := Lib.hid hmono
  clear hf hmono
  go_enter Tryz.func69, Tryz.ntmps69
  go_wp2
  go_loopw [5, 6] (fun s5 s6 wr => ∃ lo hi : Nat, s5 = .int .i64 (lo : Int) ∧ s6 = .int .i64 (hi : Int) ∧ lo ≤ hi ∧ hi ≤ n ∧ Hid ((∀ t, t < lo → p t = false) ∧ (∀ t, hi ≤ t → t < n → p t = true)) ∧ Hid (Below w.heap.size w wr)) (fun s5 s6 _ => (intOf s6).toNat - (intOf s5).toNat)
  case atStart => exact ⟨0, n, rfl, rfl, Nat.zero_le _, Nat.le_refl _, ⟨fun t ht => absurd ht (Nat.not_lt_zero _), fun t h1 h2 => by omega⟩, Below.refl _ _⟩
  case round =>
    obtain ⟨lo, hi, rfl, rfl, hlh, hin, HI, HB⟩ := hrel
    by_cases hlt : lo < hi
    · have hc := HF.out ((lo + hi) / 2) wr (by omega) HB.out
      rw [show (((lo + hi) / 2 : Nat) : Int) = ((lo : Int) + (hi : Int)) / 2 by omega] at hc
      have hlti : (lo : Int) < (hi : Int) := by omega
      cases hp : p ((lo + hi) / 2) <;> rw [hp] at hc
      · have HP := Lib.hid hp
        have HCL := Lib.hid hc
        clear hp hc
        go_wp2_with fail
        refine HCL.out.mono ?_
        rintro e w' ⟨rfl, hb⟩
        have HB2 : Hid (Below w.heap.size w w') := HB.out.trans (hb.mono HB.out.size)
        clear hb HCL
        go_wp2
        go_roundw
        case measure => simp [intOf]; omega
        case rel =>
          refine ⟨(lo + hi) / 2 + 1, hi, by rw [show ((lo : Int) + (hi : Int)) / 2 + 1 = (((lo + hi) / 2 + 1 : Nat) : Int) by omega], rfl, by omega, hin, ⟨fun t ht => ?_, HI.out.2⟩, HB2.out⟩
          cases h : p t with
          | false => rfl
          | true => have := HM.out t ((lo + hi) / 2) (by omega) (by omega) h; rw [HP.out] at this; cases this
      · have HP := Lib.hid hp
        have HCL := Lib.hid hc
        clear hp hc
        go_wp2_with fail
        refine HCL.out.mono ?_
        rintro e w' ⟨rfl, hb⟩
        have HB2 : Hid (Below w.heap.size w w') := HB.out.trans (hb.mono HB.out.size)
        clear hb HCL
        go_wp2
        go_roundw
        case measure => simp [intOf]; omega
        case rel =>
          exact ⟨lo, (lo + hi) / 2, rfl, by rw [show ((lo : Int) + (hi : Int)) / 2 = (((lo + hi) / 2 : Nat) : Int) by omega], by omega, by omega, ⟨HI.out.1, fun t ht htn => HM.out ((lo + hi) / 2) t ht htn HP.out⟩, HB2.out⟩
    · obtain rfl : hi = lo := by omega
      go_wp2
      go_ret
      exact ⟨hi, rfl, hin, HI.out.1, fun h => HI.out.2 hi (Nat.le_refl _) h, HB.out⟩

set_option maxHeartbeats 3200000 in
set_option maxRecDepth 100000 in
theorem heldAt_is (bn bf : Nat) (a : Option Addr) (n cap : Nat) (xs : List Rw) (y : Rw) (i : Nat) (r : Bool) (V : World) (hN : V.cell? ⟨bn, 0, none⟩ = some (.slice a n cap)) (hF : RwAt V bf 0 y) (hs : Rs V a n cap xs) (hy : y.Good V) (hi : i < n)
    (hr : lessR (xs.getD i Rw.no).r y.r = r) :
    Calls Tryz.prog 70 #[.int .i64 (i : Int), .pointer (some ⟨bn, 0, none⟩), .pointer (some ⟨bf, 0, none⟩)] V fun e w' => e = .returned (.bool (!r)) ∧ Below V.heap.size V w' := by
  obtain ⟨b1, o1, la, ln, lc, LL, ra, rn, rc, RR, C, rfl, hb1, hx1, hx2, hx3, hsl, hsr, hC0, hC1, hz1⟩ := hs.one i hi
  rw [hz1] at hr
  obtain ⟨ya, ym, yc, YL, za, zm, zc, ZR, D⟩ := y
  obtain ⟨hy1, hy2, hy3⟩ := hF
  simp only [Rw.l, Rw.rt, Rw.c] at hy1 hy2 hy3
  have HN : Hid (V.drew.cell? ⟨bn, 0, none⟩ = _) := hN
  have HX1 : Hid (V.drew.cell? ⟨b1, o1 + i * 3, none⟩ = _) := hx1
  have HX2 : Hid (V.drew.cell? ⟨b1, o1 + i * 3 + 1, none⟩ = _) := hx2
  have HX3 : Hid (V.drew.cell? ⟨b1, o1 + i * 3 + 2, none⟩ = _) := hx3
  have HY1 : Hid (V.drew.cell? ⟨bf, 0, none⟩ = _) := hy1
  have HY2 : Hid (V.drew.cell? ⟨bf, 0 + 1, none⟩ = _) := hy2
  have HY3 : Hid (V.drew.cell? ⟨bf, 0 + 2, none⟩ = _) := hy3
  have HGX : Hid ((⟨la, ln, lc, LL, ra, rn, rc, RR, C⟩ : Rw).Good V) := ⟨hsl, hsr, hC0, hC1⟩
  have HGY := Lib.hid hy
  have HR := Lib.hid hr
  have HI := Lib.hid hi
  have hmx : Tryz.prog.follows .mixedOrders = true := by kernel_rfl
  have HMX := Lib.hid hmx
  clear hN hs hy hr hi hx1 hx2 hx3 hy1 hy2 hy3 hsl hsr hz1 hmx hb1
  go_enter Tryz.func70, Tryz.ntmps70
  go_wp2_with fail
  refine wp_region_told2 HMX.out 8 [(5, 5), (6, 6), (7, 7), (8, 8), (9, 9), (10, 10), (11, 11), (4, 4)]
    (fun (j : Nat) (v u : Value) (w0 : World) => match j with
      | 0 => v = .slice (some ⟨b1, o1, none⟩) n cap
      | 1 => v = .int .i64 (i : Int)
      | 2 => v = .pointer (some ⟨b1, o1 + i * 3, none⟩)
      | 3 => v = .agg #[Value.slice la ln lc, Value.slice ra rn rc, Value.int .u64 C]
      | 4 => v = .agg #[Value.slice ya ym yc, Value.slice za zm zc, Value.int .u64 D]
      | 5 => v = .bool r
      | 6 => v = .bool (!r)
      | 7 => v = .bool (!r)
      | _ => True)
    (fun W => (V).drew.grownBy W none) (fun _ _ _ => False) (by kernel_rfl) (by kernel_rfl) (World.grownBy.refl _ _) (fun _ _ h1 h2 => h1.trans h2) (fun _ _ _ _ h => h.elim) ?_ ?_ ?_ ?_
  · intro j v u w0 w' h hg
    match j, h with
    | 0, h => exact h
    | 1, h => exact h
    | 2, h => exact h
    | 3, h => exact h
    | 4, h => exact h
    | 5, h => exact h
    | 6, h => exact h
    | 7, h => exact h
    | j + 8, h => exact h
  · intro j v u a0 w0 w' hne h hr
    match j, hne, h with
    | 0, hne, h => exact h
    | 1, hne, h => exact h
    | 2, hne, h => exact h
    | 3, hne, h => exact h
    | 4, hne, h => exact h
    | 5, hne, h => exact h
    | 6, hne, h => exact h
    | 7, hne, h => exact h
    | j + 8, _, h => exact h
  · intro i1 o ho a1 w1 hJ hw ht
    match i1, ho with
    | 0, ho =>
      obtain rfl := Option.some.inj ho
      exact steps_ldd (ldd_rules _ _ _) rfl (.tmp 1) rfl (hw 1 (by kernel_rfl)) (hJ.cell HN.out (by simp)) ⟨rfl, fun h => absurd h (by decide), fun _ => World.grownBy.refl _ _⟩
    | 1, ho =>
      obtain rfl := Option.some.inj ho
      exact StepsTo.move rfl (.tmp 0) (.inl rfl) ⟨(hw 0 (by kernel_rfl)), fun h => absurd h (by decide), fun _ => World.grownBy.refl _ _⟩
    | 2, ho =>
      obtain rfl := Option.some.inj ho
      exact StepsTo.of_run rfl (run_idxR rfl (show a1.eval (.tmp 5) = .slice (some ⟨b1, o1, none⟩) n cap from (ht 0 (by kernel_rfl))) (show a1.eval (.tmp 6) = .int .i64 (i : Int) from (ht 1 (by kernel_rfl))) HI.out) ⟨rfl, fun h => absurd h (by decide), fun _ => World.grownBy.refl _ _⟩
    | 3, ho =>
      obtain rfl := Option.some.inj ho
      exact StepsTo.of_run rfl (run_loadRule rfl (show a1.eval (.tmp 7) = .pointer (some ⟨b1, o1 + i * 3, none⟩) from (ht 2 (by kernel_rfl))) (hJ.cell HX1.out (by simp)) (hJ.cell HX2.out (by simp)) (hJ.cell HX3.out (by simp))) ⟨rfl, fun h => absurd h (by decide), fun _ => World.grownBy.refl _ _⟩
    | 4, ho =>
      obtain rfl := Option.some.inj ho
      exact StepsTo.of_run rfl (run_loadRule rfl (show a1.eval (.tmp 2) = .pointer (some ⟨bf, 0, none⟩) from (hw 2 (by kernel_rfl))) (hJ.cell HY1.out (by simp)) (hJ.cell HY2.out (by simp)) (hJ.cell HY3.out (by simp))) ⟨rfl, fun h => absurd h (by decide), fun _ => World.grownBy.refl _ _⟩
    | 5, ho =>
      obtain rfl := Option.some.inj ho
      have e1 : a1.eval (.tmp 8) = .agg #[Value.slice la ln lc, Value.slice ra rn rc, Value.int .u64 C] := (ht 3 (by kernel_rfl))
      have e2 : a1.eval (.tmp 9) = .agg #[Value.slice ya ym yc, Value.slice za zm zc, Value.int .u64 D] := (ht 4 (by kernel_rfl))
      refine StepsTo.enter rfl _ _ (run_lessR8 rfl e1 e2) (lessR_is ⟨la, ln, lc, LL, ra, rn, rc, RR, C⟩ ⟨ya, ym, yc, YL, za, zm, zc, ZR, D⟩ r w1 (HGX.out.below (grown_below7 hJ) (Nat.le_refl _)) (HGY.out.below (grown_below7 hJ) (Nat.le_refl _)) HR.out) (fun e w' h => ?_)
      exact ⟨_, h.1, rfl, fun h => absurd h (by decide), fun _ => below_grew7 h.2⟩
    | 6, ho =>
      obtain rfl := Option.some.inj ho
      exact StepsTo.of_run rfl (run_notB rfl (show a1.eval (.tmp 10) = .bool r from (ht 5 (by kernel_rfl)))) ⟨rfl, fun h => absurd h (by decide), fun _ => World.grownBy.refl _ _⟩
    | 7, ho =>
      obtain rfl := Option.some.inj ho
      exact StepsTo.move rfl (.tmp 11) (.inr rfl) ⟨(ht 6 (by kernel_rfl)), fun h => absurd h (by decide), fun _ => World.grownBy.refl _ _⟩
    | j1 + 8, ho => exact absurd (Array.getElem?_eq_some_iff.1 ho).1 (by simp)
  intro tm w9 hsz hJ hfr hto
  rw [act_lit2 tm (show tm.size = 12 from hsz)]
  simp only [List.range, List.range.loop, List.map_cons, List.map_nil]
  rw [hfr 0 (by kernel_rfl), hfr 1 (by kernel_rfl), hfr 2 (by kernel_rfl), hfr 3 (by kernel_rfl)]
  have t0 : (tm.getD 5 undef) = .slice (some ⟨b1, o1, none⟩) n cap := hto 0 (by decide)
  have t1 : (tm.getD 6 undef) = .int .i64 (i : Int) := hto 1 (by decide)
  have t2 : (tm.getD 7 undef) = .pointer (some ⟨b1, o1 + i * 3, none⟩) := hto 2 (by decide)
  have t3 : (tm.getD 8 undef) = .agg #[Value.slice la ln lc, Value.slice ra rn rc, Value.int .u64 C] := hto 3 (by decide)
  have t4 : (tm.getD 9 undef) = .agg #[Value.slice ya ym yc, Value.slice za zm zc, Value.int .u64 D] := hto 4 (by decide)
  have t5 : (tm.getD 10 undef) = .bool r := hto 5 (by decide)
  have t6 : (tm.getD 11 undef) = .bool (!r) := hto 6 (by decide)
  have t7 : (tm.getD 4 undef) = .bool (!r) := hto 7 (by decide)
  clear hto
  generalize tm.getD 4 undef = y4 at *
  generalize tm.getD 5 undef = y5 at *
  generalize tm.getD 6 undef = y6 at *
  generalize tm.getD 7 undef = y7 at *
  generalize tm.getD 8 undef = y8 at *
  generalize tm.getD 9 undef = y9 at *
  generalize tm.getD 10 undef = y10 at *
  generalize tm.getD 11 undef = y11 at *
  clear hfr hsz tm
  obtain rfl := t7
  have HB9 : Hid (Below V.heap.size V w9) := grown_below7 hJ
  clear t0 t1 t2 t3 t4 t5 t6 hJ
  go_wp2
  go_ret
  exact ⟨rfl, HB9.out⟩

theorem held_boxes {w W : World} {o1 o2 o3 : Obj} {a : Option Addr} {n cap : Nat} {y yf : Rw} (h1 : o1 = .cells #[.slice a n cap] 24 (0, 0)) (h2 : o2 = .cells #[y.l, y.rt, y.c] 39 (0, 0)) (h3 : o3 = .cells #[yf.l, yf.rt, yf.c] 39 (0, 0))
    (hb : Below (((w.alloc o1).alloc o2).alloc o3).heap.size (((w.alloc o1).alloc o2).alloc o3) W) :
    W.cell? ⟨w.heap.size, 0, none⟩ = some (.slice a n cap) ∧ RwAt W (w.heap.size + 1) 0 y ∧ RwAt W (w.heap.size + 2) 0 yf ∧ Below w.heap.size w W := by
  subst h1 h2 h3
  have e1 : ∀ (w : World) o, (w.alloc o).heap.size = w.heap.size + 1 := fun w o => World.size_alloc w o
  have a1 : ((w.alloc (.cells #[.slice a n cap] 24 (0, 0))).heap)[w.heap.size]? = some (.cells #[.slice a n cap] 24 (0, 0)) := heap_alloc_new w _
  generalize hA : w.alloc (.cells #[.slice a n cap] 24 (0, 0)) = A at *
  have hAs : A.heap.size = w.heap.size + 1 := by rw [← hA]; exact e1 _ _
  have r2 := RwAt.new A y 39
  generalize hB : A.alloc (.cells #[y.l, y.rt, y.c] 39 (0, 0)) = B at *
  have hBs : B.heap.size = w.heap.size + 2 := by rw [← hB, e1]; omega
  have r3 := RwAt.new B yf 39
  have hBA : Below A.heap.size A B := by rw [← hB]; exact (Below.refl _ A).alloc (Nat.le_refl _) _
  have hAw : Below w.heap.size w A := by rw [← hA]; exact (Below.refl _ w).alloc (Nat.le_refl _) _
  have hBC : Below B.heap.size B (B.alloc (.cells #[yf.l, yf.rt, yf.c] 39 (0, 0))) := (Below.refl _ B).alloc (Nat.le_refl _) _
  have hBW : Below B.heap.size B W := hBC.trans (hb.mono (by rw [e1]; omega))
  rw [hAs] at r2
  rw [hBs] at r3
  refine ⟨?_, r2.below hBW (Nat.le_refl _), r3.below hb (Nat.le_refl _), (hAw.trans (hBA.mono hAw.size)).trans (hBW.mono (by omega))⟩
  have c1 : A.cell? ⟨w.heap.size, 0, none⟩ = some (.slice a n cap) := by simp [World.cell?, a1]
  rw [hBW.cell (p := ⟨w.heap.size, 0, none⟩) (by show w.heap.size < _; omega), hBA.cell (p := ⟨w.heap.size, 0, none⟩) (by show w.heap.size < _; omega)]
  exact c1
theorem norm_mono {l : List Rul} (hl : nrm l = l) (y : Rul) : ∀ s t, s ≤ t → t < l.length → (!lessR (l.getD s Rul.no) y) = true → (!lessR (l.getD t Rul.no) y) = true := by
  intro s t hst ht h
  rcases Nat.lt_or_eq_of_le hst with hlt | rfl
  · have hr : RiseR l := by rw [← hl]; exact (isNorm_nrm l).1
    have h1 := List.pairwise_iff_getElem.1 hr s t (by omega) ht hlt
    have h2 : lessR (l.getD s Rul.no) (l.getD t Rul.no) = true := by
      rw [lessR_def]
      rw [List.getD_eq_getElem?_getD, List.getD_eq_getElem?_getD, List.getElem?_eq_getElem ht, List.getElem?_eq_getElem (by omega), Option.getD_some, Option.getD_some, h1]; rfl
    cases h3 : lessR (l.getD t Rul.no) y with
    | false => rfl
    | true => rw [lessR_trans h2 h3] at h; cases h
  · exact h

set_option maxHeartbeats 6400000 in
set_option maxRecDepth 100000 in
theorem isHeld_is (a : Option Addr) (n cap : Nat) (xs : List Rw) (y : Rw) (r : Bool) (w : World) (hs : Rs w a n cap xs) (hn : n ≤ 20000) (hnm : nrm (ruls xs) = ruls xs) (hy : y.Good w) (hr : File.held (ruls xs) y.r = r) :
    Calls Tryz.prog 41 #[.slice a n cap, y.v] w fun e w' => e = .returned (.bool r) ∧ Below w.heap.size w w' := by
  obtain ⟨ya, ym, yc, YL, za, zm, zc, ZR, D⟩ := y
  have hl : (ruls xs).length = n := by rw [ruls_length, hs.1]
  have eg : ∀ args w, (callFunc 70 args).run Tryz.prog w = .ok (.enter 70 args) w := enters_of Tryz.func70 (by kernel_rfl) rfl
  have HEG := Lib.hid eg
  have HL := Lib.hid hl
  have HS := Lib.hid hs
  have HNM := Lib.hid hnm
  have HY := Lib.hid hy
  have HR := Lib.hid hr
  have H0 : Hid (∀ s ∈ ruls xs, 0 ≤ s.C) := fun s hsm => by
    unfold ruls at hsm
    obtain ⟨x, hx, rfl⟩ := List.mem_map.1 hsm
    exact (hs.2.2.2.1 x hx).2.2.1
  have HBX : ∀ o1 o2 o3 W, o1 = .cells #[.slice a n cap] 24 (0, 0) → o2 = .cells #[.slice ya ym yc, .slice za zm zc, .int .u64 D] 39 (0, 0) → o3 = .cells #[.slice ya ym yc, .slice za zm zc, .int .u64 0] 39 (0, 0) → Below (((w.alloc o1).alloc o2).alloc o3).heap.size (((w.alloc o1).alloc o2).alloc o3) W →
      Hid (W.cell? ⟨w.heap.size, 0, none⟩ = some (.slice a n cap) ∧ RwAt W (w.heap.size + 1) 0 ⟨ya, ym, yc, YL, za, zm, zc, ZR, D⟩ ∧ RwAt W (w.heap.size + 2) 0 ⟨ya, ym, yc, YL, za, zm, zc, ZR, 0⟩ ∧ Below w.heap.size w W) := fun o1 o2 o3 W h1 h2 h3 hb => held_boxes (y := ⟨ya, ym, yc, YL, za, zm, zc, ZR, D⟩) (yf := ⟨ya, ym, yc, YL, za, zm, zc, ZR, 0⟩) h1 h2 h3 hb
  have hmx : Tryz.prog.follows .mixedOrders = true := by kernel_rfl
  have HMX := Lib.hid hmx
  clear hs hnm hy hr hl hmx eg
  simp only [Rw.v, Rw.l, Rw.rt, Rw.c]
  go_enter Tryz.func41, Tryz.ntmps41
  go_wp2_with fail
  refine (search_is 70 n _ (fun i => !lessR ((ruls xs).getD i Rul.no) ⟨YL, ZR, 0⟩) _ HEG.out (by omega) (fun i W hi hb => ?_) (fun s t h1 h2 h3 => norm_mono HNM.out _ s t h1 (by rw [HL.out]; exact h2) h3)).mono ?_
  · obtain ⟨k1, k2, k3, k4⟩ := (HBX _ _ _ W rfl rfl rfl hb).out
    exact heldAt_is w.heap.size (w.heap.size + 2) a n cap xs ⟨ya, ym, yc, YL, za, zm, zc, ZR, 0⟩ i _ W k1 k3 (HS.out.below k4 (Nat.le_refl _)) ⟨HY.out.1.below k4 (Nat.le_refl _), HY.out.2.1.below k4 (Nat.le_refl _), by simp [Rw.C], by simp [Rw.C]⟩ hi (by rw [← ruls_at]; rfl)
  rintro e W2 ⟨k, rfl, hk, hk1, hk2, hbw⟩
  obtain ⟨hc2, hcy, -, hbw2⟩ := (HBX _ _ _ W2 rfl rfl rfl hbw).out
  obtain ⟨hy1, hy2, hy3⟩ := hcy
  simp only [Rw.l, Rw.rt, Rw.c] at hy1 hy2 hy3
  have hheld := File.held_at HNM.out ⟨YL, ZR, D⟩ H0.out k (by rw [HL.out]; exact hk) (fun i hi => by have := hk1 i hi; simpa using this) (fun h => by have := hk2 (by rw [← HL.out]; exact h); simpa using this)
  have hrr : (decide (k < n) && (decide (((ruls xs).getD k Rul.no).like ⟨YL, ZR, D⟩) && decide (((ruls xs).getD k Rul.no).C ≤ D))) = r := by
    rw [← HR.out, ← HL.out]; exact hheld.symm
  have HC2 : Hid (W2.drew.cell? ⟨w.heap.size, 0, none⟩ = _) := hc2
  have HY1 : Hid (W2.drew.cell? ⟨w.heap.size + 1, 0, none⟩ = _) := hy1
  have HY2 : Hid (W2.drew.cell? ⟨w.heap.size + 1, 0 + 1, none⟩ = _) := hy2
  have HY3 : Hid (W2.drew.cell? ⟨w.heap.size + 1, 0 + 2, none⟩ = _) := hy3
  have HBW2 := Lib.hid hbw2
  have HRR := Lib.hid hrr
  clear hc2 hy1 hy2 hy3 hbw hbw2 hheld hrr hk1 hk2 HBX
  by_cases hkn : k < n
  · obtain ⟨b1, o1, la, ln, lc, LL, ra, rn, rc, RR, C, rfl, hb1, hx1, hx2, hx3, hsl, hsr, hC0, hC1, hz1⟩ := (HS.out.below HBW2.out (Nat.le_refl _)).one k hkn
    have hget : (ruls xs).getD k Rul.no = ⟨LL, RR, C⟩ := by rw [ruls_at, hz1]; rfl
    have HX1 : Hid (W2.drew.cell? ⟨b1, o1 + k * 3, none⟩ = _) := hx1
    have HX2 : Hid (W2.drew.cell? ⟨b1, o1 + k * 3 + 1, none⟩ = _) := hx2
    have HX3 : Hid (W2.drew.cell? ⟨b1, o1 + k * 3 + 2, none⟩ = _) := hx3
    have HGX : Hid ((⟨la, ln, lc, LL, ra, rn, rc, RR, C⟩ : Rw).Good W2) := ⟨hsl, hsr, hC0, hC1⟩
    have HGY : Hid ((⟨ya, ym, yc, YL, za, zm, zc, ZR, D⟩ : Rw).Good W2) := HY.out.below HBW2.out (Nat.le_refl _)
    have HK := Lib.hid hkn
    have HLT : Hid (decide ((k : Int) < (n : Int)) = true) := decide_eq_true (by omega)
    have HRR2 : Hid ((decide ((⟨LL, RR, C⟩ : Rul).like ⟨YL, ZR, D⟩) && decide (C ≤ D)) = r) := by
      show _ = _
      rw [← HRR.out, hget, decide_eq_true hkn]; rfl
    clear hx1 hx2 hx3 hsl hsr hz1 hget hb1
    cases hd2 : decide ((⟨LL, RR, C⟩ : Rul).like ⟨YL, ZR, D⟩) with
    | false =>
      have HD2 := Lib.hid hd2
      obtain rfl : r = false := by rw [← HRR2.out, hd2]; rfl
      clear hd2
      go_wp2_with fail
      refine wp_region_told2 HMX.out 23 [(16, 16), (17, 17), (18, 18), (19, 19), (20, 20), (21, 21), (22, 22), (23, 23), (24, 24), (25, 25), (26, 26), (27, 27), (28, 28), (29, 29), (30, 30), (31, 31), (32, 32), (33, 33), (34, 34), (35, 35), (36, 36), (37, 37), (4, 4)]
        (fun (j : Nat) (v u : Value) (w0 : World) => match j with
          | 0 => v = .int .i64 (k : Int)
          | 1 => v = .slice (some ⟨b1, o1, none⟩) n cap
          | 2 => v = .int .i64 (n : Int)
          | 3 => v = .bool true
          | 4 => v = .bool true
          | 5 => v = .slice (some ⟨b1, o1, none⟩) n cap
          | 6 => v = .int .i64 (k : Int)
          | 7 => v = .pointer (some ⟨b1, o1 + k * 3, none⟩)
          | 8 => v = .agg #[Value.slice la ln lc, Value.slice ra rn rc, Value.int .u64 C]
          | 9 => v = .agg #[Value.slice ya ym yc, Value.slice za zm zc, Value.int .u64 D]
          | 10 => v = .bool false
          | 11 => v = .bool false
          | 12 => v = .bool false
          | 13 => v = undef
          | 14 => v = undef
          | 15 => v = undef
          | 16 => v = undef
          | 17 => v = undef
          | 18 => v = undef
          | 19 => v = undef
          | 20 => v = undef
          | 21 => v = .bool false
          | 22 => v = .bool false
          | _ => True)
        (fun W => (W2).drew.grownBy W none) (fun _ _ _ => False) (by kernel_rfl) (by kernel_rfl) (World.grownBy.refl _ _) (fun _ _ h1 h2 => h1.trans h2) (fun _ _ _ _ h => h.elim) ?_ ?_ ?_ ?_
      · intro j v u w0 w' h hg
        match j, h with
        | 0, h => exact h
        | 1, h => exact h
        | 2, h => exact h
        | 3, h => exact h
        | 4, h => exact h
        | 5, h => exact h
        | 6, h => exact h
        | 7, h => exact h
        | 8, h => exact h
        | 9, h => exact h
        | 10, h => exact h
        | 11, h => exact h
        | 12, h => exact h
        | 13, h => exact h
        | 14, h => exact h
        | 15, h => exact h
        | 16, h => exact h
        | 17, h => exact h
        | 18, h => exact h
        | 19, h => exact h
        | 20, h => exact h
        | 21, h => exact h
        | 22, h => exact h
        | j + 23, h => exact h
      · intro j v u a0 w0 w' hne h hr
        match j, hne, h with
        | 0, hne, h => exact h
        | 1, hne, h => exact h
        | 2, hne, h => exact h
        | 3, hne, h => exact h
        | 4, hne, h => exact h
        | 5, hne, h => exact h
        | 6, hne, h => exact h
        | 7, hne, h => exact h
        | 8, hne, h => exact h
        | 9, hne, h => exact h
        | 10, hne, h => exact h
        | 11, hne, h => exact h
        | 12, hne, h => exact h
        | 13, hne, h => exact h
        | 14, hne, h => exact h
        | 15, hne, h => exact h
        | 16, hne, h => exact h
        | 17, hne, h => exact h
        | 18, hne, h => exact h
        | 19, hne, h => exact h
        | 20, hne, h => exact h
        | 21, hne, h => exact h
        | 22, hne, h => exact h
        | j + 23, _, h => exact h
      · intro i1 o ho a1 w1 hJ hw ht
        match i1, ho with
        | 0, ho =>
          obtain rfl := Option.some.inj ho
          exact StepsTo.move rfl (.tmp 6) (.inl rfl) ⟨(hw 6 (by kernel_rfl)), fun h => absurd h (by decide), fun _ => World.grownBy.refl _ _⟩
        | 1, ho =>
          obtain rfl := Option.some.inj ho
          exact steps_ldd (ldd_rules _ _ _) rfl (.tmp 2) rfl (hw 2 (by kernel_rfl)) (hJ.cell HC2.out (by simp)) ⟨rfl, fun h => absurd h (by decide), fun _ => World.grownBy.refl _ _⟩
        | 2, ho =>
          obtain rfl := Option.some.inj ho
          exact StepsTo.of_run rfl (run_lenR rfl (show a1.eval (.tmp 17) = .slice (some ⟨b1, o1, none⟩) n cap from (ht 1 (by kernel_rfl)))) ⟨rfl, fun h => absurd h (by decide), fun _ => World.grownBy.refl _ _⟩
        | 3, ho =>
          obtain rfl := Option.some.inj ho
          exact StepsTo.of_run rfl (run_lssI rfl (show a1.eval (.tmp 16) = .int .i64 (k : Int) from (ht 0 (by kernel_rfl))) (show a1.eval (.tmp 18) = .int .i64 (n : Int) from (ht 2 (by kernel_rfl)))) ⟨by show Value.bool _ = _; rw [HLT.out], fun h => absurd h (by decide), fun _ => World.grownBy.refl _ _⟩
        | 4, ho =>
          obtain rfl := Option.some.inj ho
          exact StepsTo.move rfl (.tmp 19) (.inl rfl) ⟨(ht 3 (by kernel_rfl)), fun h => absurd h (by decide), fun _ => World.grownBy.refl _ _⟩
        | 5, ho =>
          obtain rfl := Option.some.inj ho
          refine StepsTo.guarded (wanted_of rfl rfl (show a1.eval (.tmp 20) = .bool true from (ht 4 (by kernel_rfl)))) ?_
          exact steps_ldd (ldd_rules _ _ _) rfl (.tmp 2) rfl (hw 2 (by kernel_rfl)) (hJ.cell HC2.out (by simp)) ⟨rfl, fun h => absurd h (by decide), fun _ => World.grownBy.refl _ _⟩
        | 6, ho =>
          obtain rfl := Option.some.inj ho
          refine StepsTo.guarded (wanted_of rfl rfl (show a1.eval (.tmp 20) = .bool true from (ht 4 (by kernel_rfl)))) ?_
          exact StepsTo.move rfl (.tmp 6) (.inl rfl) ⟨(hw 6 (by kernel_rfl)), fun h => absurd h (by decide), fun _ => World.grownBy.refl _ _⟩
        | 7, ho =>
          obtain rfl := Option.some.inj ho
          refine StepsTo.guarded (wanted_of rfl rfl (show a1.eval (.tmp 20) = .bool true from (ht 4 (by kernel_rfl)))) ?_
          exact StepsTo.of_run rfl (run_idxR rfl (show a1.eval (.tmp 21) = .slice (some ⟨b1, o1, none⟩) n cap from (ht 5 (by kernel_rfl))) (show a1.eval (.tmp 22) = .int .i64 (k : Int) from (ht 6 (by kernel_rfl))) HK.out) ⟨rfl, fun h => absurd h (by decide), fun _ => World.grownBy.refl _ _⟩
        | 8, ho =>
          obtain rfl := Option.some.inj ho
          refine StepsTo.guarded (wanted_of rfl rfl (show a1.eval (.tmp 20) = .bool true from (ht 4 (by kernel_rfl)))) ?_
          exact StepsTo.of_run rfl (run_loadRule rfl (show a1.eval (.tmp 23) = .pointer (some ⟨b1, o1 + k * 3, none⟩) from (ht 7 (by kernel_rfl))) (hJ.cell HX1.out (by simp)) (hJ.cell HX2.out (by simp)) (hJ.cell HX3.out (by simp))) ⟨rfl, fun h => absurd h (by decide), fun _ => World.grownBy.refl _ _⟩
        | 9, ho =>
          obtain rfl := Option.some.inj ho
          refine StepsTo.guarded (wanted_of rfl rfl (show a1.eval (.tmp 20) = .bool true from (ht 4 (by kernel_rfl)))) ?_
          exact StepsTo.of_run rfl (run_loadRule rfl (show a1.eval (.tmp 3) = .pointer (some ⟨w.heap.size + 1, 0, none⟩) from (hw 3 (by kernel_rfl))) (hJ.cell HY1.out (by simp)) (hJ.cell HY2.out (by simp)) (hJ.cell HY3.out (by simp))) ⟨rfl, fun h => absurd h (by decide), fun _ => World.grownBy.refl _ _⟩
        | 10, ho =>
          obtain rfl := Option.some.inj ho
          refine StepsTo.guarded (wanted_of rfl rfl (show a1.eval (.tmp 20) = .bool true from (ht 4 (by kernel_rfl)))) ?_
          have e1 : a1.eval (.tmp 24) = .agg #[Value.slice la ln lc, Value.slice ra rn rc, Value.int .u64 C] := (ht 8 (by kernel_rfl))
          have e2 : a1.eval (.tmp 25) = .agg #[Value.slice ya ym yc, Value.slice za zm zc, Value.int .u64 D] := (ht 9 (by kernel_rfl))
          refine StepsTo.enter rfl _ _ (run_sides8 rfl e1 e2) (sameSides_is ⟨la, ln, lc, LL, ra, rn, rc, RR, C⟩ ⟨ya, ym, yc, YL, za, zm, zc, ZR, D⟩ false w1 (HGX.out.below (grown_below7 hJ) (Nat.le_refl _)) (HGY.out.below (grown_below7 hJ) (Nat.le_refl _)) HD2.out) (fun e w' h => ?_)
          exact ⟨_, h.1, rfl, fun h => absurd h (by decide), fun _ => below_grew7 h.2⟩
        | 11, ho =>
          obtain rfl := Option.some.inj ho
          exact StepsTo.of_run rfl (run_pick rfl (show a1.eval (.tmp 20) = .bool true from (ht 4 (by kernel_rfl))) (show a1.eval (.tmp 26) = .bool false from (ht 10 (by kernel_rfl))) rfl) ⟨rfl, fun h => absurd h (by decide), fun _ => World.grownBy.refl _ _⟩
        | 12, ho =>
          obtain rfl := Option.some.inj ho
          exact StepsTo.move rfl (.tmp 27) (.inl rfl) ⟨(ht 11 (by kernel_rfl)), fun h => absurd h (by decide), fun _ => World.grownBy.refl _ _⟩
        | 13, ho =>
          obtain rfl := Option.some.inj ho
          exact StepsTo.passed (passed_of rfl rfl (show a1.eval (.tmp 28) = .bool false from (ht 12 (by kernel_rfl))) (by decide)) ⟨rfl, fun h => absurd h (by decide), fun _ => World.grownBy.refl _ _⟩
        | 14, ho =>
          obtain rfl := Option.some.inj ho
          exact StepsTo.passed (passed_of rfl rfl (show a1.eval (.tmp 28) = .bool false from (ht 12 (by kernel_rfl))) (by decide)) ⟨rfl, fun h => absurd h (by decide), fun _ => World.grownBy.refl _ _⟩
        | 15, ho =>
          obtain rfl := Option.some.inj ho
          exact StepsTo.passed (passed_of rfl rfl (show a1.eval (.tmp 28) = .bool false from (ht 12 (by kernel_rfl))) (by decide)) ⟨rfl, fun h => absurd h (by decide), fun _ => World.grownBy.refl _ _⟩
        | 16, ho =>
          obtain rfl := Option.some.inj ho
          exact StepsTo.passed (passed_of rfl rfl (show a1.eval (.tmp 28) = .bool false from (ht 12 (by kernel_rfl))) (by decide)) ⟨rfl, fun h => absurd h (by decide), fun _ => World.grownBy.refl _ _⟩
        | 17, ho =>
          obtain rfl := Option.some.inj ho
          exact StepsTo.passed (passed_of rfl rfl (show a1.eval (.tmp 28) = .bool false from (ht 12 (by kernel_rfl))) (by decide)) ⟨rfl, fun h => absurd h (by decide), fun _ => World.grownBy.refl _ _⟩
        | 18, ho =>
          obtain rfl := Option.some.inj ho
          exact StepsTo.passed (passed_of rfl rfl (show a1.eval (.tmp 28) = .bool false from (ht 12 (by kernel_rfl))) (by decide)) ⟨rfl, fun h => absurd h (by decide), fun _ => World.grownBy.refl _ _⟩
        | 19, ho =>
          obtain rfl := Option.some.inj ho
          exact StepsTo.passed (passed_of rfl rfl (show a1.eval (.tmp 28) = .bool false from (ht 12 (by kernel_rfl))) (by decide)) ⟨rfl, fun h => absurd h (by decide), fun _ => World.grownBy.refl _ _⟩
        | 20, ho =>
          obtain rfl := Option.some.inj ho
          exact StepsTo.passed (passed_of rfl rfl (show a1.eval (.tmp 28) = .bool false from (ht 12 (by kernel_rfl))) (by decide)) ⟨rfl, fun h => absurd h (by decide), fun _ => World.grownBy.refl _ _⟩
        | 21, ho =>
          obtain rfl := Option.some.inj ho
          exact StepsTo.of_run rfl (run_pick rfl (show a1.eval (.tmp 28) = .bool false from (ht 12 (by kernel_rfl))) (show a1.eval (.tmp 36) = undef from (ht 20 (by kernel_rfl))) rfl) ⟨rfl, fun h => absurd h (by decide), fun _ => World.grownBy.refl _ _⟩
        | 22, ho =>
          obtain rfl := Option.some.inj ho
          exact StepsTo.move rfl (.tmp 37) (.inr rfl) ⟨(ht 21 (by kernel_rfl)), fun h => absurd h (by decide), fun _ => World.grownBy.refl _ _⟩
        | j1 + 23, ho => exact absurd (Array.getElem?_eq_some_iff.1 ho).1 (by simp)
      intro tm w9 hsz hJ hfr hto
      rw [act_lit2 tm (show tm.size = 38 from hsz)]
      simp only [List.range, List.range.loop, List.map_cons, List.map_nil]
      rw [hfr 0 (by kernel_rfl), hfr 1 (by kernel_rfl), hfr 2 (by kernel_rfl), hfr 3 (by kernel_rfl), hfr 5 (by kernel_rfl), hfr 6 (by kernel_rfl), hfr 7 (by kernel_rfl), hfr 8 (by kernel_rfl), hfr 9 (by kernel_rfl), hfr 10 (by kernel_rfl), hfr 11 (by kernel_rfl), hfr 12 (by kernel_rfl), hfr 13 (by kernel_rfl), hfr 14 (by kernel_rfl), hfr 15 (by kernel_rfl)]
      have t0 : (tm.getD 16 undef) = .int .i64 (k : Int) := hto 0 (by decide)
      have t1 : (tm.getD 17 undef) = .slice (some ⟨b1, o1, none⟩) n cap := hto 1 (by decide)
      have t2 : (tm.getD 18 undef) = .int .i64 (n : Int) := hto 2 (by decide)
      have t3 : (tm.getD 19 undef) = .bool true := hto 3 (by decide)
      have t4 : (tm.getD 20 undef) = .bool true := hto 4 (by decide)
      have t5 : (tm.getD 21 undef) = .slice (some ⟨b1, o1, none⟩) n cap := hto 5 (by decide)
      have t6 : (tm.getD 22 undef) = .int .i64 (k : Int) := hto 6 (by decide)
      have t7 : (tm.getD 23 undef) = .pointer (some ⟨b1, o1 + k * 3, none⟩) := hto 7 (by decide)
      have t8 : (tm.getD 24 undef) = .agg #[Value.slice la ln lc, Value.slice ra rn rc, Value.int .u64 C] := hto 8 (by decide)
      have t9 : (tm.getD 25 undef) = .agg #[Value.slice ya ym yc, Value.slice za zm zc, Value.int .u64 D] := hto 9 (by decide)
      have t10 : (tm.getD 26 undef) = .bool false := hto 10 (by decide)
      have t11 : (tm.getD 27 undef) = .bool false := hto 11 (by decide)
      have t12 : (tm.getD 28 undef) = .bool false := hto 12 (by decide)
      have t13 : (tm.getD 29 undef) = undef := hto 13 (by decide)
      have t14 : (tm.getD 30 undef) = undef := hto 14 (by decide)
      have t15 : (tm.getD 31 undef) = undef := hto 15 (by decide)
      have t16 : (tm.getD 32 undef) = undef := hto 16 (by decide)
      have t17 : (tm.getD 33 undef) = undef := hto 17 (by decide)
      have t18 : (tm.getD 34 undef) = undef := hto 18 (by decide)
      have t19 : (tm.getD 35 undef) = undef := hto 19 (by decide)
      have t20 : (tm.getD 36 undef) = undef := hto 20 (by decide)
      have t21 : (tm.getD 37 undef) = .bool false := hto 21 (by decide)
      have t22 : (tm.getD 4 undef) = .bool false := hto 22 (by decide)
      clear hto
      generalize tm.getD 4 undef = y4 at *
      generalize tm.getD 16 undef = y16 at *
      generalize tm.getD 17 undef = y17 at *
      generalize tm.getD 18 undef = y18 at *
      generalize tm.getD 19 undef = y19 at *
      generalize tm.getD 20 undef = y20 at *
      generalize tm.getD 21 undef = y21 at *
      generalize tm.getD 22 undef = y22 at *
      generalize tm.getD 23 undef = y23 at *
      generalize tm.getD 24 undef = y24 at *
      generalize tm.getD 25 undef = y25 at *
      generalize tm.getD 26 undef = y26 at *
      generalize tm.getD 27 undef = y27 at *
      generalize tm.getD 28 undef = y28 at *
      generalize tm.getD 29 undef = y29 at *
      generalize tm.getD 30 undef = y30 at *
      generalize tm.getD 31 undef = y31 at *
      generalize tm.getD 32 undef = y32 at *
      generalize tm.getD 33 undef = y33 at *
      generalize tm.getD 34 undef = y34 at *
      generalize tm.getD 35 undef = y35 at *
      generalize tm.getD 36 undef = y36 at *
      generalize tm.getD 37 undef = y37 at *
      clear hfr hsz tm
      obtain rfl := t22
      have HB9 : Hid (Below w.heap.size w w9) := HBW2.out.trans ((grown_below7 hJ).mono HBW2.out.size)
      clear t0 t1 t2 t3 t4 t5 t6 t7 t8 t9 t10 t11 t12 t13 t14 t15 t16 t17 t18 t19 t20 t21 hJ
      go_wp2
      go_ret
      exact ⟨by first | rfl | (rw [← HRR.out]), HB9.out⟩
    | true =>
      have HD2 := Lib.hid hd2
      have HD3 : Hid (decide (C ≤ D) = r) := by show _ = _; rw [← HRR2.out, hd2]; rfl
      clear hd2
      go_wp2_with fail
      refine wp_region_told2 HMX.out 23 [(16, 16), (17, 17), (18, 18), (19, 19), (20, 20), (21, 21), (22, 22), (23, 23), (24, 24), (25, 25), (26, 26), (27, 27), (28, 28), (29, 29), (30, 30), (31, 31), (32, 32), (33, 33), (34, 34), (35, 35), (36, 36), (37, 37), (4, 4)]
        (fun (j : Nat) (v u : Value) (w0 : World) => match j with
          | 0 => v = .int .i64 (k : Int)
          | 1 => v = .slice (some ⟨b1, o1, none⟩) n cap
          | 2 => v = .int .i64 (n : Int)
          | 3 => v = .bool true
          | 4 => v = .bool true
          | 5 => v = .slice (some ⟨b1, o1, none⟩) n cap
          | 6 => v = .int .i64 (k : Int)
          | 7 => v = .pointer (some ⟨b1, o1 + k * 3, none⟩)
          | 8 => v = .agg #[Value.slice la ln lc, Value.slice ra rn rc, Value.int .u64 C]
          | 9 => v = .agg #[Value.slice ya ym yc, Value.slice za zm zc, Value.int .u64 D]
          | 10 => v = .bool true
          | 11 => v = .bool true
          | 12 => v = .bool true
          | 13 => v = .slice (some ⟨b1, o1, none⟩) n cap
          | 14 => v = .int .i64 (k : Int)
          | 15 => v = .pointer (some ⟨b1, o1 + k * 3, none⟩)
          | 16 => v = .pointer (some ⟨b1, o1 + k * 3 + 2, none⟩)
          | 17 => v = .int .u64 C
          | 18 => v = .pointer (some ⟨w.heap.size + 1, 2, none⟩)
          | 19 => v = .int .u64 D
          | 20 => v = .bool r
          | 21 => v = .bool r
          | 22 => v = .bool r
          | _ => True)
        (fun W => (W2).drew.grownBy W none) (fun _ _ _ => False) (by kernel_rfl) (by kernel_rfl) (World.grownBy.refl _ _) (fun _ _ h1 h2 => h1.trans h2) (fun _ _ _ _ h => h.elim) ?_ ?_ ?_ ?_
      · intro j v u w0 w' h hg
        match j, h with
        | 0, h => exact h
        | 1, h => exact h
        | 2, h => exact h
        | 3, h => exact h
        | 4, h => exact h
        | 5, h => exact h
        | 6, h => exact h
        | 7, h => exact h
        | 8, h => exact h
        | 9, h => exact h
        | 10, h => exact h
        | 11, h => exact h
        | 12, h => exact h
        | 13, h => exact h
        | 14, h => exact h
        | 15, h => exact h
        | 16, h => exact h
        | 17, h => exact h
        | 18, h => exact h
        | 19, h => exact h
        | 20, h => exact h
        | 21, h => exact h
        | 22, h => exact h
        | j + 23, h => exact h
      · intro j v u a0 w0 w' hne h hr
        match j, hne, h with
        | 0, hne, h => exact h
        | 1, hne, h => exact h
        | 2, hne, h => exact h
        | 3, hne, h => exact h
        | 4, hne, h => exact h
        | 5, hne, h => exact h
        | 6, hne, h => exact h
        | 7, hne, h => exact h
        | 8, hne, h => exact h
        | 9, hne, h => exact h
        | 10, hne, h => exact h
        | 11, hne, h => exact h
        | 12, hne, h => exact h
        | 13, hne, h => exact h
        | 14, hne, h => exact h
        | 15, hne, h => exact h
        | 16, hne, h => exact h
        | 17, hne, h => exact h
        | 18, hne, h => exact h
        | 19, hne, h => exact h
        | 20, hne, h => exact h
        | 21, hne, h => exact h
        | 22, hne, h => exact h
        | j + 23, _, h => exact h
      · intro i1 o ho a1 w1 hJ hw ht
        match i1, ho with
        | 0, ho =>
          obtain rfl := Option.some.inj ho
          exact StepsTo.move rfl (.tmp 6) (.inl rfl) ⟨(hw 6 (by kernel_rfl)), fun h => absurd h (by decide), fun _ => World.grownBy.refl _ _⟩
        | 1, ho =>
          obtain rfl := Option.some.inj ho
          exact steps_ldd (ldd_rules _ _ _) rfl (.tmp 2) rfl (hw 2 (by kernel_rfl)) (hJ.cell HC2.out (by simp)) ⟨rfl, fun h => absurd h (by decide), fun _ => World.grownBy.refl _ _⟩
        | 2, ho =>
          obtain rfl := Option.some.inj ho
          exact StepsTo.of_run rfl (run_lenR rfl (show a1.eval (.tmp 17) = .slice (some ⟨b1, o1, none⟩) n cap from (ht 1 (by kernel_rfl)))) ⟨rfl, fun h => absurd h (by decide), fun _ => World.grownBy.refl _ _⟩
        | 3, ho =>
          obtain rfl := Option.some.inj ho
          exact StepsTo.of_run rfl (run_lssI rfl (show a1.eval (.tmp 16) = .int .i64 (k : Int) from (ht 0 (by kernel_rfl))) (show a1.eval (.tmp 18) = .int .i64 (n : Int) from (ht 2 (by kernel_rfl)))) ⟨by show Value.bool _ = _; rw [HLT.out], fun h => absurd h (by decide), fun _ => World.grownBy.refl _ _⟩
        | 4, ho =>
          obtain rfl := Option.some.inj ho
          exact StepsTo.move rfl (.tmp 19) (.inl rfl) ⟨(ht 3 (by kernel_rfl)), fun h => absurd h (by decide), fun _ => World.grownBy.refl _ _⟩
        | 5, ho =>
          obtain rfl := Option.some.inj ho
          refine StepsTo.guarded (wanted_of rfl rfl (show a1.eval (.tmp 20) = .bool true from (ht 4 (by kernel_rfl)))) ?_
          exact steps_ldd (ldd_rules _ _ _) rfl (.tmp 2) rfl (hw 2 (by kernel_rfl)) (hJ.cell HC2.out (by simp)) ⟨rfl, fun h => absurd h (by decide), fun _ => World.grownBy.refl _ _⟩
        | 6, ho =>
          obtain rfl := Option.some.inj ho
          refine StepsTo.guarded (wanted_of rfl rfl (show a1.eval (.tmp 20) = .bool true from (ht 4 (by kernel_rfl)))) ?_
          exact StepsTo.move rfl (.tmp 6) (.inl rfl) ⟨(hw 6 (by kernel_rfl)), fun h => absurd h (by decide), fun _ => World.grownBy.refl _ _⟩
        | 7, ho =>
          obtain rfl := Option.some.inj ho
          refine StepsTo.guarded (wanted_of rfl rfl (show a1.eval (.tmp 20) = .bool true from (ht 4 (by kernel_rfl)))) ?_
          exact StepsTo.of_run rfl (run_idxR rfl (show a1.eval (.tmp 21) = .slice (some ⟨b1, o1, none⟩) n cap from (ht 5 (by kernel_rfl))) (show a1.eval (.tmp 22) = .int .i64 (k : Int) from (ht 6 (by kernel_rfl))) HK.out) ⟨rfl, fun h => absurd h (by decide), fun _ => World.grownBy.refl _ _⟩
        | 8, ho =>
          obtain rfl := Option.some.inj ho
          refine StepsTo.guarded (wanted_of rfl rfl (show a1.eval (.tmp 20) = .bool true from (ht 4 (by kernel_rfl)))) ?_
          exact StepsTo.of_run rfl (run_loadRule rfl (show a1.eval (.tmp 23) = .pointer (some ⟨b1, o1 + k * 3, none⟩) from (ht 7 (by kernel_rfl))) (hJ.cell HX1.out (by simp)) (hJ.cell HX2.out (by simp)) (hJ.cell HX3.out (by simp))) ⟨rfl, fun h => absurd h (by decide), fun _ => World.grownBy.refl _ _⟩
        | 9, ho =>
          obtain rfl := Option.some.inj ho
          refine StepsTo.guarded (wanted_of rfl rfl (show a1.eval (.tmp 20) = .bool true from (ht 4 (by kernel_rfl)))) ?_
          exact StepsTo.of_run rfl (run_loadRule rfl (show a1.eval (.tmp 3) = .pointer (some ⟨w.heap.size + 1, 0, none⟩) from (hw 3 (by kernel_rfl))) (hJ.cell HY1.out (by simp)) (hJ.cell HY2.out (by simp)) (hJ.cell HY3.out (by simp))) ⟨rfl, fun h => absurd h (by decide), fun _ => World.grownBy.refl _ _⟩
        | 10, ho =>
          obtain rfl := Option.some.inj ho
          refine StepsTo.guarded (wanted_of rfl rfl (show a1.eval (.tmp 20) = .bool true from (ht 4 (by kernel_rfl)))) ?_
          have e1 : a1.eval (.tmp 24) = .agg #[Value.slice la ln lc, Value.slice ra rn rc, Value.int .u64 C] := (ht 8 (by kernel_rfl))
          have e2 : a1.eval (.tmp 25) = .agg #[Value.slice ya ym yc, Value.slice za zm zc, Value.int .u64 D] := (ht 9 (by kernel_rfl))
          refine StepsTo.enter rfl _ _ (run_sides8 rfl e1 e2) (sameSides_is ⟨la, ln, lc, LL, ra, rn, rc, RR, C⟩ ⟨ya, ym, yc, YL, za, zm, zc, ZR, D⟩ true w1 (HGX.out.below (grown_below7 hJ) (Nat.le_refl _)) (HGY.out.below (grown_below7 hJ) (Nat.le_refl _)) HD2.out) (fun e w' h => ?_)
          exact ⟨_, h.1, rfl, fun h => absurd h (by decide), fun _ => below_grew7 h.2⟩
        | 11, ho =>
          obtain rfl := Option.some.inj ho
          exact StepsTo.of_run rfl (run_pick rfl (show a1.eval (.tmp 20) = .bool true from (ht 4 (by kernel_rfl))) (show a1.eval (.tmp 26) = .bool true from (ht 10 (by kernel_rfl))) rfl) ⟨rfl, fun h => absurd h (by decide), fun _ => World.grownBy.refl _ _⟩
        | 12, ho =>
          obtain rfl := Option.some.inj ho
          exact StepsTo.move rfl (.tmp 27) (.inl rfl) ⟨(ht 11 (by kernel_rfl)), fun h => absurd h (by decide), fun _ => World.grownBy.refl _ _⟩
        | 13, ho =>
          obtain rfl := Option.some.inj ho
          refine StepsTo.guarded (wanted_of rfl rfl (show a1.eval (.tmp 28) = .bool true from (ht 12 (by kernel_rfl)))) ?_
          exact steps_ldd (ldd_rules _ _ _) rfl (.tmp 2) rfl (hw 2 (by kernel_rfl)) (hJ.cell HC2.out (by simp)) ⟨rfl, fun h => absurd h (by decide), fun _ => World.grownBy.refl _ _⟩
        | 14, ho =>
          obtain rfl := Option.some.inj ho
          refine StepsTo.guarded (wanted_of rfl rfl (show a1.eval (.tmp 28) = .bool true from (ht 12 (by kernel_rfl)))) ?_
          exact StepsTo.move rfl (.tmp 6) (.inl rfl) ⟨(hw 6 (by kernel_rfl)), fun h => absurd h (by decide), fun _ => World.grownBy.refl _ _⟩
        | 15, ho =>
          obtain rfl := Option.some.inj ho
          refine StepsTo.guarded (wanted_of rfl rfl (show a1.eval (.tmp 28) = .bool true from (ht 12 (by kernel_rfl)))) ?_
          exact StepsTo.of_run rfl (run_idxR rfl (show a1.eval (.tmp 29) = .slice (some ⟨b1, o1, none⟩) n cap from (ht 13 (by kernel_rfl))) (show a1.eval (.tmp 30) = .int .i64 (k : Int) from (ht 14 (by kernel_rfl))) HK.out) ⟨rfl, fun h => absurd h (by decide), fun _ => World.grownBy.refl _ _⟩
        | 16, ho =>
          obtain rfl := Option.some.inj ho
          refine StepsTo.guarded (wanted_of rfl rfl (show a1.eval (.tmp 28) = .bool true from (ht 12 (by kernel_rfl)))) ?_
          exact StepsTo.of_run rfl (run_faddrR rfl (show a1.eval (.tmp 31) = .pointer (some ⟨b1, o1 + k * 3, none⟩) from (ht 15 (by kernel_rfl)))) ⟨rfl, fun h => absurd h (by decide), fun _ => World.grownBy.refl _ _⟩
        | 17, ho =>
          obtain rfl := Option.some.inj ho
          refine StepsTo.guarded (wanted_of rfl rfl (show a1.eval (.tmp 28) = .bool true from (ht 12 (by kernel_rfl)))) ?_
          exact steps_ldd (ldd_cost _) rfl (.tmp 32) rfl (ht 16 (by kernel_rfl)) (hJ.cell HX3.out (by simp)) ⟨rfl, fun h => absurd h (by decide), fun _ => World.grownBy.refl _ _⟩
        | 18, ho =>
          obtain rfl := Option.some.inj ho
          refine StepsTo.guarded (wanted_of rfl rfl (show a1.eval (.tmp 28) = .bool true from (ht 12 (by kernel_rfl)))) ?_
          exact StepsTo.of_run rfl (run_faddrR rfl (show a1.eval (.tmp 3) = .pointer (some ⟨w.heap.size + 1, 0, none⟩) from (hw 3 (by kernel_rfl)))) ⟨rfl, fun h => absurd h (by decide), fun _ => World.grownBy.refl _ _⟩
        | 19, ho =>
          obtain rfl := Option.some.inj ho
          refine StepsTo.guarded (wanted_of rfl rfl (show a1.eval (.tmp 28) = .bool true from (ht 12 (by kernel_rfl)))) ?_
          exact steps_ldd (ldd_cost _) rfl (.tmp 34) rfl (ht 18 (by kernel_rfl)) (hJ.cell HY3.out (by simp)) ⟨rfl, fun h => absurd h (by decide), fun _ => World.grownBy.refl _ _⟩
        | 20, ho =>
          obtain rfl := Option.some.inj ho
          refine StepsTo.guarded (wanted_of rfl rfl (show a1.eval (.tmp 28) = .bool true from (ht 12 (by kernel_rfl)))) ?_
          exact StepsTo.of_run rfl (run_leqU rfl (show a1.eval (.tmp 33) = .int .u64 C from (ht 17 (by kernel_rfl))) (show a1.eval (.tmp 35) = .int .u64 D from (ht 19 (by kernel_rfl)))) ⟨by show Value.bool _ = _; rw [HD3.out], fun h => absurd h (by decide), fun _ => World.grownBy.refl _ _⟩
        | 21, ho =>
          obtain rfl := Option.some.inj ho
          exact StepsTo.of_run rfl (run_pick rfl (show a1.eval (.tmp 28) = .bool true from (ht 12 (by kernel_rfl))) (show a1.eval (.tmp 36) = .bool r from (ht 20 (by kernel_rfl))) rfl) ⟨rfl, fun h => absurd h (by decide), fun _ => World.grownBy.refl _ _⟩
        | 22, ho =>
          obtain rfl := Option.some.inj ho
          exact StepsTo.move rfl (.tmp 37) (.inr rfl) ⟨(ht 21 (by kernel_rfl)), fun h => absurd h (by decide), fun _ => World.grownBy.refl _ _⟩
        | j1 + 23, ho => exact absurd (Array.getElem?_eq_some_iff.1 ho).1 (by simp)
      intro tm w9 hsz hJ hfr hto
      rw [act_lit2 tm (show tm.size = 38 from hsz)]
      simp only [List.range, List.range.loop, List.map_cons, List.map_nil]
      rw [hfr 0 (by kernel_rfl), hfr 1 (by kernel_rfl), hfr 2 (by kernel_rfl), hfr 3 (by kernel_rfl), hfr 5 (by kernel_rfl), hfr 6 (by kernel_rfl), hfr 7 (by kernel_rfl), hfr 8 (by kernel_rfl), hfr 9 (by kernel_rfl), hfr 10 (by kernel_rfl), hfr 11 (by kernel_rfl), hfr 12 (by kernel_rfl), hfr 13 (by kernel_rfl), hfr 14 (by kernel_rfl), hfr 15 (by kernel_rfl)]
      have t0 : (tm.getD 16 undef) = .int .i64 (k : Int) := hto 0 (by decide)
      have t1 : (tm.getD 17 undef) = .slice (some ⟨b1, o1, none⟩) n cap := hto 1 (by decide)
      have t2 : (tm.getD 18 undef) = .int .i64 (n : Int) := hto 2 (by decide)
      have t3 : (tm.getD 19 undef) = .bool true := hto 3 (by decide)
      have t4 : (tm.getD 20 undef) = .bool true := hto 4 (by decide)
      have t5 : (tm.getD 21 undef) = .slice (some ⟨b1, o1, none⟩) n cap := hto 5 (by decide)
      have t6 : (tm.getD 22 undef) = .int .i64 (k : Int) := hto 6 (by decide)
      have t7 : (tm.getD 23 undef) = .pointer (some ⟨b1, o1 + k * 3, none⟩) := hto 7 (by decide)
      have t8 : (tm.getD 24 undef) = .agg #[Value.slice la ln lc, Value.slice ra rn rc, Value.int .u64 C] := hto 8 (by decide)
      have t9 : (tm.getD 25 undef) = .agg #[Value.slice ya ym yc, Value.slice za zm zc, Value.int .u64 D] := hto 9 (by decide)
      have t10 : (tm.getD 26 undef) = .bool true := hto 10 (by decide)
      have t11 : (tm.getD 27 undef) = .bool true := hto 11 (by decide)
      have t12 : (tm.getD 28 undef) = .bool true := hto 12 (by decide)
      have t13 : (tm.getD 29 undef) = .slice (some ⟨b1, o1, none⟩) n cap := hto 13 (by decide)
      have t14 : (tm.getD 30 undef) = .int .i64 (k : Int) := hto 14 (by decide)
      have t15 : (tm.getD 31 undef) = .pointer (some ⟨b1, o1 + k * 3, none⟩) := hto 15 (by decide)
      have t16 : (tm.getD 32 undef) = .pointer (some ⟨b1, o1 + k * 3 + 2, none⟩) := hto 16 (by decide)
      have t17 : (tm.getD 33 undef) = .int .u64 C := hto 17 (by decide)
      have t18 : (tm.getD 34 undef) = .pointer (some ⟨w.heap.size + 1, 2, none⟩) := hto 18 (by decide)
      have t19 : (tm.getD 35 undef) = .int .u64 D := hto 19 (by decide)
      have t20 : (tm.getD 36 undef) = .bool r := hto 20 (by decide)
      have t21 : (tm.getD 37 undef) = .bool r := hto 21 (by decide)
      have t22 : (tm.getD 4 undef) = .bool r := hto 22 (by decide)
      clear hto
      generalize tm.getD 4 undef = y4 at *
      generalize tm.getD 16 undef = y16 at *
      generalize tm.getD 17 undef = y17 at *
      generalize tm.getD 18 undef = y18 at *
      generalize tm.getD 19 undef = y19 at *
      generalize tm.getD 20 undef = y20 at *
      generalize tm.getD 21 undef = y21 at *
      generalize tm.getD 22 undef = y22 at *
      generalize tm.getD 23 undef = y23 at *
      generalize tm.getD 24 undef = y24 at *
      generalize tm.getD 25 undef = y25 at *
      generalize tm.getD 26 undef = y26 at *
      generalize tm.getD 27 undef = y27 at *
      generalize tm.getD 28 undef = y28 at *
      generalize tm.getD 29 undef = y29 at *
      generalize tm.getD 30 undef = y30 at *
      generalize tm.getD 31 undef = y31 at *
      generalize tm.getD 32 undef = y32 at *
      generalize tm.getD 33 undef = y33 at *
      generalize tm.getD 34 undef = y34 at *
      generalize tm.getD 35 undef = y35 at *
      generalize tm.getD 36 undef = y36 at *
      generalize tm.getD 37 undef = y37 at *
      clear hfr hsz tm
      obtain rfl := t22
      have HB9 : Hid (Below w.heap.size w w9) := HBW2.out.trans ((grown_below7 hJ).mono HBW2.out.size)
      clear t0 t1 t2 t3 t4 t5 t6 t7 t8 t9 t10 t11 t12 t13 t14 t15 t16 t17 t18 t19 t20 t21 hJ
      go_wp2
      go_ret
      exact ⟨by first | rfl | (rw [← HRR.out]), HB9.out⟩
  · have HLT : Hid (decide ((k : Int) < (n : Int)) = false) := decide_eq_false (by omega)
    obtain rfl : r = false := by rw [← HRR.out, decide_eq_false hkn]; rfl
    go_wp2_with fail
    refine wp_region_told2 HMX.out 23 [(16, 16), (17, 17), (18, 18), (19, 19), (20, 20), (21, 21), (22, 22), (23, 23), (24, 24), (25, 25), (26, 26), (27, 27), (28, 28), (29, 29), (30, 30), (31, 31), (32, 32), (33, 33), (34, 34), (35, 35), (36, 36), (37, 37), (4, 4)]
      (fun (j : Nat) (v u : Value) (w0 : World) => match j with
        | 0 => v = .int .i64 (k : Int)
        | 1 => v = .slice a n cap
        | 2 => v = .int .i64 (n : Int)
        | 3 => v = .bool false
        | 4 => v = .bool false
        | 5 => v = undef
        | 6 => v = undef
        | 7 => v = undef
        | 8 => v = undef
        | 9 => v = undef
        | 10 => v = undef
        | 11 => v = .bool false
        | 12 => v = .bool false
        | 13 => v = undef
        | 14 => v = undef
        | 15 => v = undef
        | 16 => v = undef
        | 17 => v = undef
        | 18 => v = undef
        | 19 => v = undef
        | 20 => v = undef
        | 21 => v = .bool false
        | 22 => v = .bool false
        | _ => True)
      (fun W => (W2).drew.grownBy W none) (fun _ _ _ => False) (by kernel_rfl) (by kernel_rfl) (World.grownBy.refl _ _) (fun _ _ h1 h2 => h1.trans h2) (fun _ _ _ _ h => h.elim) ?_ ?_ ?_ ?_
    · intro j v u w0 w' h hg
      match j, h with
      | 0, h => exact h
      | 1, h => exact h
      | 2, h => exact h
      | 3, h => exact h
      | 4, h => exact h
      | 5, h => exact h
      | 6, h => exact h
      | 7, h => exact h
      | 8, h => exact h
      | 9, h => exact h
      | 10, h => exact h
      | 11, h => exact h
      | 12, h => exact h
      | 13, h => exact h
      | 14, h => exact h
      | 15, h => exact h
      | 16, h => exact h
      | 17, h => exact h
      | 18, h => exact h
      | 19, h => exact h
      | 20, h => exact h
      | 21, h => exact h
      | 22, h => exact h
      | j + 23, h => exact h
    · intro j v u a0 w0 w' hne h hr
      match j, hne, h with
      | 0, hne, h => exact h
      | 1, hne, h => exact h
      | 2, hne, h => exact h
      | 3, hne, h => exact h
      | 4, hne, h => exact h
      | 5, hne, h => exact h
      | 6, hne, h => exact h
      | 7, hne, h => exact h
      | 8, hne, h => exact h
      | 9, hne, h => exact h
      | 10, hne, h => exact h
      | 11, hne, h => exact h
      | 12, hne, h => exact h
      | 13, hne, h => exact h
      | 14, hne, h => exact h
      | 15, hne, h => exact h
      | 16, hne, h => exact h
      | 17, hne, h => exact h
      | 18, hne, h => exact h
      | 19, hne, h => exact h
      | 20, hne, h => exact h
      | 21, hne, h => exact h
      | 22, hne, h => exact h
      | j + 23, _, h => exact h
    · intro i1 o ho a1 w1 hJ hw ht
      match i1, ho with
      | 0, ho =>
        obtain rfl := Option.some.inj ho
        exact StepsTo.move rfl (.tmp 6) (.inl rfl) ⟨(hw 6 (by kernel_rfl)), fun h => absurd h (by decide), fun _ => World.grownBy.refl _ _⟩
      | 1, ho =>
        obtain rfl := Option.some.inj ho
        exact steps_ldd (ldd_rules _ _ _) rfl (.tmp 2) rfl (hw 2 (by kernel_rfl)) (hJ.cell HC2.out (by simp)) ⟨rfl, fun h => absurd h (by decide), fun _ => World.grownBy.refl _ _⟩
      | 2, ho =>
        obtain rfl := Option.some.inj ho
        exact StepsTo.of_run rfl (run_lenR rfl (show a1.eval (.tmp 17) = .slice a n cap from (ht 1 (by kernel_rfl)))) ⟨rfl, fun h => absurd h (by decide), fun _ => World.grownBy.refl _ _⟩
      | 3, ho =>
        obtain rfl := Option.some.inj ho
        exact StepsTo.of_run rfl (run_lssI rfl (show a1.eval (.tmp 16) = .int .i64 (k : Int) from (ht 0 (by kernel_rfl))) (show a1.eval (.tmp 18) = .int .i64 (n : Int) from (ht 2 (by kernel_rfl)))) ⟨by show Value.bool _ = _; rw [HLT.out], fun h => absurd h (by decide), fun _ => World.grownBy.refl _ _⟩
      | 4, ho =>
        obtain rfl := Option.some.inj ho
        exact StepsTo.move rfl (.tmp 19) (.inl rfl) ⟨(ht 3 (by kernel_rfl)), fun h => absurd h (by decide), fun _ => World.grownBy.refl _ _⟩
      | 5, ho =>
        obtain rfl := Option.some.inj ho
        exact StepsTo.passed (passed_of rfl rfl (show a1.eval (.tmp 20) = .bool false from (ht 4 (by kernel_rfl))) (by decide)) ⟨rfl, fun h => absurd h (by decide), fun _ => World.grownBy.refl _ _⟩
      | 6, ho =>
        obtain rfl := Option.some.inj ho
        exact StepsTo.passed (passed_of rfl rfl (show a1.eval (.tmp 20) = .bool false from (ht 4 (by kernel_rfl))) (by decide)) ⟨rfl, fun h => absurd h (by decide), fun _ => World.grownBy.refl _ _⟩
      | 7, ho =>
        obtain rfl := Option.some.inj ho
        exact StepsTo.passed (passed_of rfl rfl (show a1.eval (.tmp 20) = .bool false from (ht 4 (by kernel_rfl))) (by decide)) ⟨rfl, fun h => absurd h (by decide), fun _ => World.grownBy.refl _ _⟩
      | 8, ho =>
        obtain rfl := Option.some.inj ho
        exact StepsTo.passed (passed_of rfl rfl (show a1.eval (.tmp 20) = .bool false from (ht 4 (by kernel_rfl))) (by decide)) ⟨rfl, fun h => absurd h (by decide), fun _ => World.grownBy.refl _ _⟩
      | 9, ho =>
        obtain rfl := Option.some.inj ho
        exact StepsTo.passed (passed_of rfl rfl (show a1.eval (.tmp 20) = .bool false from (ht 4 (by kernel_rfl))) (by decide)) ⟨rfl, fun h => absurd h (by decide), fun _ => World.grownBy.refl _ _⟩
      | 10, ho =>
        obtain rfl := Option.some.inj ho
        exact StepsTo.passed (passed_of rfl rfl (show a1.eval (.tmp 20) = .bool false from (ht 4 (by kernel_rfl))) (by decide)) ⟨rfl, fun h => absurd h (by decide), fun _ => World.grownBy.refl _ _⟩
      | 11, ho =>
        obtain rfl := Option.some.inj ho
        exact StepsTo.of_run rfl (run_pick rfl (show a1.eval (.tmp 20) = .bool false from (ht 4 (by kernel_rfl))) (show a1.eval (.tmp 26) = undef from (ht 10 (by kernel_rfl))) rfl) ⟨rfl, fun h => absurd h (by decide), fun _ => World.grownBy.refl _ _⟩
      | 12, ho =>
        obtain rfl := Option.some.inj ho
        exact StepsTo.move rfl (.tmp 27) (.inl rfl) ⟨(ht 11 (by kernel_rfl)), fun h => absurd h (by decide), fun _ => World.grownBy.refl _ _⟩
      | 13, ho =>
        obtain rfl := Option.some.inj ho
        exact StepsTo.passed (passed_of rfl rfl (show a1.eval (.tmp 28) = .bool false from (ht 12 (by kernel_rfl))) (by decide)) ⟨rfl, fun h => absurd h (by decide), fun _ => World.grownBy.refl _ _⟩
      | 14, ho =>
        obtain rfl := Option.some.inj ho
        exact StepsTo.passed (passed_of rfl rfl (show a1.eval (.tmp 28) = .bool false from (ht 12 (by kernel_rfl))) (by decide)) ⟨rfl, fun h => absurd h (by decide), fun _ => World.grownBy.refl _ _⟩
      | 15, ho =>
        obtain rfl := Option.some.inj ho
        exact StepsTo.passed (passed_of rfl rfl (show a1.eval (.tmp 28) = .bool false from (ht 12 (by kernel_rfl))) (by decide)) ⟨rfl, fun h => absurd h (by decide), fun _ => World.grownBy.refl _ _⟩
      | 16, ho =>
        obtain rfl := Option.some.inj ho
        exact StepsTo.passed (passed_of rfl rfl (show a1.eval (.tmp 28) = .bool false from (ht 12 (by kernel_rfl))) (by decide)) ⟨rfl, fun h => absurd h (by decide), fun _ => World.grownBy.refl _ _⟩
      | 17, ho =>
        obtain rfl := Option.some.inj ho
        exact StepsTo.passed (passed_of rfl rfl (show a1.eval (.tmp 28) = .bool false from (ht 12 (by kernel_rfl))) (by decide)) ⟨rfl, fun h => absurd h (by decide), fun _ => World.grownBy.refl _ _⟩
      | 18, ho =>
        obtain rfl := Option.some.inj ho
        exact StepsTo.passed (passed_of rfl rfl (show a1.eval (.tmp 28) = .bool false from (ht 12 (by kernel_rfl))) (by decide)) ⟨rfl, fun h => absurd h (by decide), fun _ => World.grownBy.refl _ _⟩
      | 19, ho =>
        obtain rfl := Option.some.inj ho
        exact StepsTo.passed (passed_of rfl rfl (show a1.eval (.tmp 28) = .bool false from (ht 12 (by kernel_rfl))) (by decide)) ⟨rfl, fun h => absurd h (by decide), fun _ => World.grownBy.refl _ _⟩
      | 20, ho =>
        obtain rfl := Option.some.inj ho
        exact StepsTo.passed (passed_of rfl rfl (show a1.eval (.tmp 28) = .bool false from (ht 12 (by kernel_rfl))) (by decide)) ⟨rfl, fun h => absurd h (by decide), fun _ => World.grownBy.refl _ _⟩
      | 21, ho =>
        obtain rfl := Option.some.inj ho
        exact StepsTo.of_run rfl (run_pick rfl (show a1.eval (.tmp 28) = .bool false from (ht 12 (by kernel_rfl))) (show a1.eval (.tmp 36) = undef from (ht 20 (by kernel_rfl))) rfl) ⟨rfl, fun h => absurd h (by decide), fun _ => World.grownBy.refl _ _⟩
      | 22, ho =>
        obtain rfl := Option.some.inj ho
        exact StepsTo.move rfl (.tmp 37) (.inr rfl) ⟨(ht 21 (by kernel_rfl)), fun h => absurd h (by decide), fun _ => World.grownBy.refl _ _⟩
      | j1 + 23, ho => exact absurd (Array.getElem?_eq_some_iff.1 ho).1 (by simp)
    intro tm w9 hsz hJ hfr hto
    rw [act_lit2 tm (show tm.size = 38 from hsz)]
    simp only [List.range, List.range.loop, List.map_cons, List.map_nil]
    rw [hfr 0 (by kernel_rfl), hfr 1 (by kernel_rfl), hfr 2 (by kernel_rfl), hfr 3 (by kernel_rfl), hfr 5 (by kernel_rfl), hfr 6 (by kernel_rfl), hfr 7 (by kernel_rfl), hfr 8 (by kernel_rfl), hfr 9 (by kernel_rfl), hfr 10 (by kernel_rfl), hfr 11 (by kernel_rfl), hfr 12 (by kernel_rfl), hfr 13 (by kernel_rfl), hfr 14 (by kernel_rfl), hfr 15 (by kernel_rfl)]
    have t0 : (tm.getD 16 undef) = .int .i64 (k : Int) := hto 0 (by decide)
    have t1 : (tm.getD 17 undef) = .slice a n cap := hto 1 (by decide)
    have t2 : (tm.getD 18 undef) = .int .i64 (n : Int) := hto 2 (by decide)
    have t3 : (tm.getD 19 undef) = .bool false := hto 3 (by decide)
    have t4 : (tm.getD 20 undef) = .bool false := hto 4 (by decide)
    have t5 : (tm.getD 21 undef) = undef := hto 5 (by decide)
    have t6 : (tm.getD 22 undef) = undef := hto 6 (by decide)
    have t7 : (tm.getD 23 undef) = undef := hto 7 (by decide)
    have t8 : (tm.getD 24 undef) = undef := hto 8 (by decide)
    have t9 : (tm.getD 25 undef) = undef := hto 9 (by decide)
    have t10 : (tm.getD 26 undef) = undef := hto 10 (by decide)
    have t11 : (tm.getD 27 undef) = .bool false := hto 11 (by decide)
    have t12 : (tm.getD 28 undef) = .bool false := hto 12 (by decide)
    have t13 : (tm.getD 29 undef) = undef := hto 13 (by decide)
    have t14 : (tm.getD 30 undef) = undef := hto 14 (by decide)
    have t15 : (tm.getD 31 undef) = undef := hto 15 (by decide)
    have t16 : (tm.getD 32 undef) = undef := hto 16 (by decide)
    have t17 : (tm.getD 33 undef) = undef := hto 17 (by decide)
    have t18 : (tm.getD 34 undef) = undef := hto 18 (by decide)
    have t19 : (tm.getD 35 undef) = undef := hto 19 (by decide)
    have t20 : (tm.getD 36 undef) = undef := hto 20 (by decide)
    have t21 : (tm.getD 37 undef) = .bool false := hto 21 (by decide)
    have t22 : (tm.getD 4 undef) = .bool false := hto 22 (by decide)
    clear hto
    generalize tm.getD 4 undef = y4 at *
    generalize tm.getD 16 undef = y16 at *
    generalize tm.getD 17 undef = y17 at *
    generalize tm.getD 18 undef = y18 at *
    generalize tm.getD 19 undef = y19 at *
    generalize tm.getD 20 undef = y20 at *
    generalize tm.getD 21 undef = y21 at *
    generalize tm.getD 22 undef = y22 at *
    generalize tm.getD 23 undef = y23 at *
    generalize tm.getD 24 undef = y24 at *
    generalize tm.getD 25 undef = y25 at *
    generalize tm.getD 26 undef = y26 at *
    generalize tm.getD 27 undef = y27 at *
    generalize tm.getD 28 undef = y28 at *
    generalize tm.getD 29 undef = y29 at *
    generalize tm.getD 30 undef = y30 at *
    generalize tm.getD 31 undef = y31 at *
    generalize tm.getD 32 undef = y32 at *
    generalize tm.getD 33 undef = y33 at *
    generalize tm.getD 34 undef = y34 at *
    generalize tm.getD 35 undef = y35 at *
    generalize tm.getD 36 undef = y36 at *
    generalize tm.getD 37 undef = y37 at *
    clear hfr hsz tm
    obtain rfl := t22
    have HB9 : Hid (Below w.heap.size w w9) := HBW2.out.trans ((grown_below7 hJ).mono HBW2.out.size)
    clear t0 t1 t2 t3 t4 t5 t6 t7 t8 t9 t10 t11 t12 t13 t14 t15 t16 t17 t18 t19 t20 t21 hJ
    go_wp2
    go_ret
    exact ⟨by first | rfl | (rw [← HRR.out]), HB9.out⟩

end Go.Proofs.YtjmabjeaodojeaaGreat
