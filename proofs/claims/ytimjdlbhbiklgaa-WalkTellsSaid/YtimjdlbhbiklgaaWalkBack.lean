/- Used by the law. -/
import Derived.Test.YtimjdlbhbiklgaaChecked
import Derived.KernelRfl
import Derived.Test.YtimjdlbhbiklgaaPackR
import Derived.Test.YtimjdlbhbiklgaaDawgKeep
import Derived.Lib.Hide
import Derived.Shelf.Abstract
import Derived.Shelf.RegionOpen
import Derived.OwnWalkIn
import Derived.TacticsInMore
import Derived.LoopNIn
import Derived.LoopIn
namespace Go.Proofs.Ytimjdlbhbiklgaa
open Go.RowKit Go.Shelf
attribute [local go_sem] Oper.semAt_some

abbrev Bi (zs : List Int) := { x : Nat × Int // x.1 < zs.length ∧ zs.getD x.1 0 = x.2 }
def BackI (zs : List Int) (l : List (Bi zs)) : Prop := ∀ j, ∀ h : j < l.length, (l[j]).1.1 + j + 1 = zs.length
theorem BackI.add {zs : List Int} {l : List (Bi zs)} (h : BackI zs l) (x : Bi zs) (hx : x.1.1 + l.length + 1 = zs.length) : BackI zs (l ++ [x]) := by
  intro j hj
  by_cases hl : j < l.length
  · rw [List.getElem_append_left hl]; exact h j hl
  · have : j = l.length := by simp at hj; omega
    subst this
    simpa using hx
theorem BackI.last {zs : List Int} {l : List (Bi zs)} {x : Bi zs} (h : BackI zs (l ++ [x])) : x.1.1 + l.length + 1 = zs.length := by
  have := h l.length (by simp)
  rw [List.getElem_append_right (Nat.le_refl _)] at this
  simpa using this
def biv {zs : List Int} (x : Bi zs) : Array Value := #[.int .i64 (x.1.1 : Int), .int .i64 x.1.2]
set_option maxRecDepth 100000 in
set_option maxHeartbeats 4000000 in
theorem backwardI1_in (F : Fence) (n : Nat) (h7 : F.fn 75) (hro : F.round = none) (hd : F.depth = none) (l B1 : Nat) (a : Option Addr) (len cap : Nat) (zs : List Int) (W : World) (hs : Sl .i64 W a len cap zs) (hlm : len ≤ 1000000)
    (J Jx : List (Bi zs) → (Nat → Prop) → World → Prop)
    (hY : ∀ pre x O W, BackI zs (pre ++ [x]) → J pre O W → pre.length < len → YieldAt F (n - 1) Try.prog l (biv x) W (AnswersR J Jx (pre ++ [x]) O W))
    (Rd : Nat → Prop) (hRa : ∀ b off, a = some ⟨b, off, none⟩ → Rd b) (hR1 : Rd B1)
    (O : Nat → Prop) (hRW : ∀ k, Rd k → k < W.heap.size) (hO : ∀ k, O k → ¬ Rd k)
    (c1 : W.cell? ⟨B1, 0, none⟩ = some (.slice a len cap)) (h0 : J [] O W) :
    CallsIn F n Try.prog 75 #[.func (.yield l) #[] #[], .pointer (some ⟨B1, 0, none⟩)] W fun e W' => (∃ v, e = .returned v) ∧
      ∃ O', (∃ xs : List (Bi zs), (BackI zs xs ∧ xs.length = len) ∧ J xs O' W') ∨ (∃ pre, True ∧ Jx pre O' W') := by
  have hstep : ∀ (O1 O3 : Nat → Prop) (A B : World), Keep Rd W A → (∀ k, O1 k → ¬ Rd k) → Keep (fun k => ¬ O1 k) A B → (∀ k, O3 k → O1 k ∨ A.heap.size ≤ k ∧ k < B.heap.size) → Keep Rd W B ∧ (∀ k, O3 k → ¬ Rd k) := by
    intro O1 O3 A B hA h1 hB h3
    refine ⟨hA.trans (hB.mono fun k _ hr ho => h1 k ho hr), fun k hk hr => ?_⟩
    rcases h3 k hk with h | h
    · exact h1 k h hr
    · have := hRW k hr; have := hA.size; omega
  have hnc := hs.2.1
  have hcm := hs.2.2.1
  unfold maxLen at hcm
  have HS := Lib.hid hs
  have HYL : Hid (zs.length = len) := Lib.hid hs.1
  have HY := Lib.hid hY
  have HRA := Lib.hid hRa
  have HR1 := Lib.hid hR1
  have HST2 := Lib.hid hstep
  clear hs hY hRa hR1 hRW hstep
  refine callsIn_of_wp Try.func75 rfl h7 ?_ hro
  simp only [Try.ntmps75, List.size_toArray, List.length_cons, List.length_nil, Nat.reduceAdd, Nat.reduceSub, Array.replicate_succ, Array.replicate_zero, List.push_toArray, List.append_toArray, List.nil_append, List.cons_append]
  gi_wp2
  gi_loopw [3] (fun ix wr => ∃ (i : Nat) (pre : List (Bi zs)) (O1 : Nat → Prop), i ≤ len ∧ pre.length + i = len ∧ ix = .int .i64 ((i : Int) - 1) ∧ Hid (BackI zs pre) ∧ Hid (J pre O1 wr) ∧ Hid (Keep Rd W wr) ∧ Hid (∀ k, O1 k → ¬ Rd k)) (fun ix _ => (intOf ix + 1).toNat)
  case atStart => exact ⟨len, [], O, Nat.le_refl _, by simp, by go_num, (by intro j hj; simp at hj), h0, Keep.refl _ _, hO⟩
  case round =>
    obtain ⟨i', pre, O1, hil, hpl, rfl, HBK, HJ, HK, HO1⟩ := hrel
    have hk1 := HK.out.cell c1 HR1.out
    by_cases hpos : 0 < i'
    · obtain ⟨i, rfl⟩ : ∃ i, i' = i + 1 := ⟨i' - 1, by omega⟩
      obtain ⟨b, o, rfl, hb1, hc0⟩ := (HS.out.keep HK.out HRA.out).at (by omega)
      have hc1 := hc0 i (by omega)
      obtain ⟨z, hz⟩ : ∃ z, zs.getD i 0 = z := ⟨_, rfl⟩
      rw [hz] at hc1
      have hi1 : ((i + 1 : Nat) : Int) - 1 = (i : Int) := by omega
      rw [hi1]
      have hi0 : (0 : Int) ≤ (i : Int) := by omega
      have hilz : (i : Int) < (len : Int) := by omega
      obtain ⟨x, hxe⟩ : ∃ x : Bi zs, x.1 = (i, z) := ⟨⟨(i, z), by show i < zs.length; rw [HYL.out]; omega, hz⟩, rfl⟩
      have hbk : BackI zs (pre ++ [x]) := HBK.out.add x (by rw [hxe, HYL.out]; show i + pre.length + 1 = len; omega)
      have hxv : biv x = #[.int .i64 (i : Int), .int .i64 z] := by unfold biv; rw [hxe]
      obtain ⟨fn, tmps, assign, body, hy, hR⟩ := HY.out pre x O1 wr hbk HJ.out (by omega)
      rw [hxv] at hy
      have HBK2 := Lib.hid hbk
      clear hc0 hz hxe hxv hbk hb1
      gi_wp2
      refine hR.mono ?_
      rintro e W3 ⟨O3, hk3, ho3, (⟨rfl, hJ3⟩ | ⟨rfl, hJx3⟩)⟩
      all_goals have hst := HST2.out O1 O3 _ _ HK.out HO1.out hk3 ho3
      · gi_wp2
        go_roundw
        case rel => exact ⟨i, pre ++ [x], O3, by omega, by simp; omega, by go_num, HBK2.out, hJ3, hst.1, hst.2⟩
        case measure => simp [intOf]
      · gi_wp2
        refine bodyPost_ret (results_none rfl _ _ _) rfl ?_
        exact ⟨⟨_, rfl⟩, O3, .inr ⟨pre ++ [x], trivial, hJx3⟩⟩
    · obtain rfl : i' = 0 := by omega
      gi_wp2
      go_end0
      exact ⟨⟨_, rfl⟩, O1, .inl ⟨pre, ⟨HBK.out, by omega⟩, HJ.out⟩⟩
set_option maxRecDepth 100000 in
theorem backwardI_in (F : Fence) (n : Nat) (h5 : F.fn 57) (hro : F.round = none) (a : Option Addr) (len cap : Nat) (w : World) :
    CallsIn F n Try.prog 57 #[.slice a len cap] w fun e w' => e = .returned (.func (.func 75) #[] #[.pointer (some ⟨w.heap.size, 0, none⟩)]) ∧ w' = w.alloc (.cells #[.slice a len cap] 23) := by
  refine callsIn_of_wp Try.func57 rfl h5 ?_ hro
  simp only [Try.ntmps57, List.size_toArray, List.length_cons, List.length_nil, Nat.reduceAdd, Nat.reduceSub, Array.replicate_succ, Array.replicate_zero, List.push_toArray, List.append_toArray, List.nil_append, List.cons_append]
  gi_wp2
  go_ret
  exact ⟨rfl, rfl⟩
set_option maxRecDepth 100000 in
theorem backwardI_iter (F : Fence) (n : Nat) (hfn : ∀ f, F.fn f) (hro : F.round = none) (hd : F.depth = none) (B1 : Nat) (a : Option Addr) (len cap : Nat) (zs : List Int) (w : World) (hs : Sl .i64 w a len cap zs) (hlm : len ≤ 1000000)
    (Rd : Nat → Prop) (hRa : ∀ b off, a = some ⟨b, off, none⟩ → Rd b) (hR1 : Rd B1) (hRw : ∀ k, Rd k → k < w.heap.size) (c1 : w.cell? ⟨B1, 0, none⟩ = some (.slice a len cap)) :
    IterR F n Try.prog 75 #[.pointer (some ⟨B1, 0, none⟩)] (biv (zs := zs)) Rd (BackI zs) (fun _ _ => True) (fun xs => BackI zs xs ∧ xs.length = len) (fun _ => True) len w := by
  intro l J Jx O W hW hO _ _ hY h0
  exact backwardI1_in F n (hfn _) hro hd l B1 a len cap zs W (hs.keep hW hRa) hlm J Jx (fun pre x O W hT hj hl => hY pre x O W hT trivial hj hl) Rd hRa hR1 O (fun k hk => Nat.lt_of_lt_of_le (hRw k hk) hW.size) (fun k hk => (hO k hk).1) (hW.cell c1 hR1) h0
end Go.Proofs.Ytimjdlbhbiklgaa
