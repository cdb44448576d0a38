import Derived.Test.YtpcebfefbnpbpaaPackM
import Derived.Test.YtpcebfefbnpbpaaStpBase
import Derived.Test.YtpcebfefbnpbpaaStpRule
import Derived.Test.YtpcebfefbnpbpaaPackN
import Derived.Test.YtpcebfefbnpbpaaPackG
import Derived.Lib.Hide
import Derived.Shelf.Abstract
import Derived.Shelf.RegionOpen
import Derived.OwnWalkIn
import Derived.TacticsInMore
import Derived.LoopNIn
import Derived.LoopIn
set_option linter.all false
set_option maxRecDepth 100000
set_option maxHeartbeats 12800000
namespace Go.Proofs.Ytpcebfefbnpbpaa
open Go.RowKit Go.Shelf
attribute [local go_sem] Oper.semAt_some

theorem stepsOf_in (F : Fence) (n : Nat) (h5 : F.fn 26) (hro : F.round = none) (c : Cw) (qa : Option Addr) (qn qc : Nat) (w : World) :
    CallsIn F n Try.prog 26 #[c.v, .slice qa qn qc] w fun e w' => e = .returned (.func (.func 35) #[] #[.pointer (some ⟨w.heap.size, 0, none⟩), .pointer (some ⟨w.heap.size + 1, 0, none⟩)]) ∧ w' = (w.alloc (.cells c.cells 25)).alloc (.cells #[.slice qa qn qc] 26) := by
  obtain ⟨cm, cl, co, ct, ra, rn, rcap, xs⟩ := c
  show CallsIn F n _ _ #[.agg #[.int .u64 cm, .int .u64 cl, .int .u64 co, .int .u64 ct, .slice ra rn rcap], .slice qa qn qc] w _
  refine callsIn_of_wp Try.func26 rfl h5 ?_ hro
  simp only [Try.ntmps26, List.size_toArray, List.length_cons, List.length_nil, Nat.reduceAdd, Nat.reduceSub, Array.replicate_succ, Array.replicate_zero, List.push_toArray, List.append_toArray, List.nil_append, List.cons_append]
  gi_wp2
  go_ret
  exact ⟨rfl, rfl⟩

theorem chk_len17 {r : Rul} (h : chk r = true) : r.L.length ≤ 8 ∧ r.R.length ≤ 8 := ⟨goodL_short (chk_good h).1, goodL_short (chk_good h).2⟩
/-- the pieces that may be told, one behind the other -/
def Told17 (l : List Stp.St) (p : List Pw) : Prop := stps p <+: l
def Ow17 (x : Pw) (k : Nat) : Prop := x.blk = some k

/-- what stands between two rounds: what was told has been handed over, and all that lay in W1 but the consumer's own lies as it lay -/
structure Mid17 (W1 : World) (O : Nat → Prop) (J : List Pw → (Nat → Prop) → World → Prop) (told pre : List Pw) (U : Nat → Prop) (X : World) : Prop where
  inv : J pre U X
  keep : Keep (fun k => ¬ O k ∧ ∀ x ∈ told, x.blk ≠ some k) W1 X
  own : ∀ k, U k → k < W1.heap.size → O k ∨ ∃ x ∈ told, x.blk = some k
  lt : ∀ k, U k → k < X.heap.size
theorem Mid17.alloc {W1 X : World} {O U : Nat → Prop} {J : List Pw → (Nat → Prop) → World → Prop} {told pre : List Pw} {B : Nat} (h : Mid17 W1 O J told pre U X) (hJ : Stable B J) (hB : B ≤ X.heap.size) {X' : World} (hb : Below X.heap.size X X') : Mid17 W1 O J told pre U X' :=
  ⟨hJ _ _ _ _ h.inv ((Keep.of_below hb).mono fun k _ hk => hk.elim (fun hk => by show k < X.heap.size; omega) (fun hk => h.lt k hk)),
   h.keep.trans ((Keep.of_below hb).mono fun k hk _ => hk), h.own, fun k hk => Nat.lt_of_lt_of_le (h.lt k hk) hb.size⟩
/-- one that was told: its block lay in W1, and is no other's -/
theorem Mid17.told {W1 X X' : World} {O U U' : Nat → Prop} {J J' : List Pw → (Nat → Prop) → World → Prop} {told pre : List Pw} {x : Pw} (h : Mid17 W1 O J told pre U X) (hx : x.Lies X) (hk : Keep (fun k => ¬ U k) X X') (hU : ∀ k, U' k → U k ∨ Ow17 x k ∨ X.heap.size ≤ k ∧ k < X'.heap.size) (hj : J' (pre ++ [x]) U' X') : Mid17 W1 O J' (told ++ [x]) (pre ++ [x]) U' X' := by
  refine ⟨hj, h.keep.trans' hk fun k hlt hh => ⟨⟨hh.1, fun y hy => hh.2 y (List.mem_append_left _ hy)⟩, fun hu => ?_⟩, fun k hu hlt => ?_, fun k hu => ?_⟩
  · rcases h.own k hu hlt with ho | ⟨y, hy, e⟩
    · exact hh.1 ho
    · exact hh.2 y (List.mem_append_left _ hy) e
  · rcases hU k hu with hu | hu | hu
    · rcases h.own k hu hlt with ho | ⟨y, hy, e⟩
      · exact .inl ho
      · exact .inr ⟨y, List.mem_append_left _ hy, e⟩
    · exact .inr ⟨x, by simp, hu⟩
    · have := h.keep.size; omega
  · rcases hU k hu with hu | hu | hu
    · exact Nat.lt_of_lt_of_le (h.lt k hu) hk.size
    · obtain ⟨cs, fr, e⟩ := hx.blk hu
      exact Nat.lt_of_lt_of_le (lt_of_obj e) hk.size
    · exact hu.2
/-- .. where its block is none of W1's, it need not be named -/
theorem Mid17.drop {W1 X : World} {O U : Nat → Prop} {J : List Pw → (Nat → Prop) → World → Prop} {told pre : List Pw} {x : Pw} (h : Mid17 W1 O J (told ++ [x]) pre U X) (hx : ∀ b, x.blk = some b → W1.heap.size ≤ b) : Mid17 W1 O J told pre U X := by
  refine ⟨h.inv, ?_, fun k hu hlt => ?_, h.lt⟩
  · refine h.keep.mono fun k hlt hh => ⟨hh.1, fun y hy => ?_⟩
    rcases List.mem_append.1 hy with hy | hy
    · exact hh.2 y hy
    · rw [List.mem_singleton.1 hy]; intro e; have := hx k e; omega
  · rcases h.own k hu hlt with ho | ⟨y, hy, e⟩
    · exact .inl ho
    · rcases List.mem_append.1 hy with hy | hy
      · exact .inr ⟨y, hy, e⟩
      · rw [List.mem_singleton.1 hy] at e; have := hx k e; omega

theorem base_len {W W1 : World} {a : Option Addr} {m c : Nat} {ys : List Pw} (h : BaseP W W1 a m c ys) : ys.length = m := h.made.len
theorem prefix_take {l t : List Stp.St} {ys : List Pw} (hl : l = stps ys ++ t) (j : Nat) : Told17 l (ys.take j) := by
  unfold Told17
  rw [hl]
  have : stps (ys.take j) <+: stps ys := by
    unfold stps; rw [List.map_take]; exact List.take_prefix _ _
  exact this.trans (List.prefix_append _ _)
theorem take_snoc {ys : List Pw} {j : Nat} (hj : j < ys.length) : ys.take (j + 1) = ys.take j ++ [ys.getD j Pw.no] := by
  rw [List.take_succ_eq_append_getElem hj, List.getD_eq_getElem?_getD, List.getElem?_eq_getElem hj, Option.getD_some]
/-- the block of one that is still to be told is none of those that were -/
theorem apart_take {ys : List Pw} (h : ys.Pairwise fun x y => ∀ b, x.blk = some b → y.blk ≠ some b) {j : Nat} (hj : j < ys.length) : ∀ x ∈ ys.take j, ∀ b, x.blk = some b → (ys.getD j Pw.no).blk ≠ some b := by
  intro x hx b hb
  rw [List.getD_eq_getElem?_getD, List.getElem?_eq_getElem hj, Option.getD_some]
  obtain ⟨i, hi, rfl⟩ := List.getElem_of_mem hx
  rw [List.getElem_take] at hb
  rw [List.length_take] at hi
  exact (List.pairwise_iff_getElem.1 h) i j (by omega) hj (by omega) b hb
theorem steps_iter (F : Fence) (hF : F = Fence.wide) (n : Nat) (c : Cw) (hk : File.check c.c = true) (qa : Option Addr) (qn qc : Nat) (rest : List Int) (W0 w : World) (hc : c.Good W0) (hq : Sl .i64 W0 qa qn qc rest) (B1 B2 : Nat)
    (Rd : Nat → Prop) (hR0 : ∀ k, k < W0.heap.size → Rd k) (hR1 : Rd B1) (hR2 : Rd B2) (hRw : ∀ k, Rd k → k < w.heap.size) (hb : Below W0.heap.size W0 w) (c1 : w.heap[B1]? = some (.cells c.cells 25 (0, 0))) (c2 : w.cell? ⟨B2, 0, none⟩ = some (.slice qa qn qc)) :
    IterO F n Try.prog 35 #[.pointer (some ⟨B1, 0, none⟩), .pointer (some ⟨B2, 0, none⟩)] (fun x : Pw => #[x.v]) Rd (Told17 (Stp.here c.c rest)) (fun x W => x.Lies W) Ow17 (fun p => stps p = Stp.here c.c rest) (fun _ => True) (Stp.here c.c rest).length w := by
  intro yl J Jx O W hW hO hJ hJx hY h0
  have hfn : ∀ f, F.fn f := by subst hF; exact fun _ => trivial
  have hro : F.round = none := by subst hF; rfl
  have hd : F.depth = none := by subst hF; rfl
  obtain ⟨cm, cl, co, ct, ra, rn, rcap, xs⟩ := c
  obtain ⟨l, hl⟩ : ∃ l, l = Stp.here (Cw.c ⟨cm, cl, co, ct, ra, rn, rcap, xs⟩) rest := ⟨_, rfl⟩
  rw [← hl] at hY ⊢
  have HLE := Lib.hid hl
  have hRS : Rs W0 ra rn rcap xs := hc.1
  have hrn2 := hRS.2.1
  have hrm := hRS.2.2.1
  unfold maxLen at hrm
  have hqn2 := hq.2.1
  have hqm := hq.2.2.1
  unfold maxLen at hqm
  obtain ⟨-, hn2, hfit, -⟩ := File.check_parts hk
  have hrn : rn ≤ 200 := by
    have h : (ruls xs).length ≤ 200 := hn2
    rw [ruls_length, hRS.1] at h
    exact h
  have H8 : Hid (∀ r ∈ ruls xs, r.L.length ≤ 8 ∧ r.R.length ≤ 8) := Lib.hid fun r hr => chk_len17 (Spec.fit_parts (hfit r hr)).1
  have bW : Below W0.heap.size W0 W := hb.trans (hW.below hb.size hR0)
  have d1 : W.heap[B1]? = some (.cells #[.int .u64 cm, .int .u64 cl, .int .u64 co, .int .u64 ct, .slice ra rn rcap] 25 (0, 0)) := hW.heap c1 hR1
  have d2 := hW.cell c2 hR2
  have HCC : Hid (∀ X, Keep (fun k => k = B1 ∨ k = B2) W X → X.cell? ⟨B1, 0, none⟩ = some (.int .u64 cm) ∧ X.cell? ⟨B1, 1, none⟩ = some (.int .u64 cl) ∧ X.cell? ⟨B1, 2, none⟩ = some (.int .u64 co) ∧ X.cell? ⟨B1, 3, none⟩ = some (.int .u64 ct) ∧ X.cell? ⟨B1, 4, none⟩ = some (.slice ra rn rcap) ∧ X.cell? ⟨B2, 0, none⟩ = some (.slice qa qn qc)) := Lib.hid fun X hX => by
    have h := hX.heap d1 (.inl rfl)
    exact ⟨by rw [cell_of_row X _ _ _ _ _ h]; rfl, by rw [cell_of_row X _ _ _ _ _ h]; rfl, by rw [cell_of_row X _ _ _ _ _ h]; rfl, by rw [cell_of_row X _ _ _ _ _ h]; rfl, by rw [cell_of_row X _ _ _ _ _ h]; rfl, hX.cell d2 (.inr rfl)⟩
  have hB1 : B1 < W.heap.size := lt_of_obj d1
  have hB2 : B2 < W.heap.size := cell_lt d2
  have HRS := Lib.hid hRS
  have HQ := Lib.hid hq
  have HCG := Lib.hid hc
  have HO := Lib.hid hO
  have HJ := Lib.hid hJ
  have HY : Hid (∀ (m : Nat) (pre : List Pw) (x : Pw) (O : Nat → Prop) (W1 : World), Told17 l (pre ++ [x]) → x.Lies W1 → J pre O W1 → YieldAt F m Try.prog yl #[x.v] W1 (AnswersO Ow17 x J Jx (pre ++ [x]) O W1)) := Lib.hid fun m pre x O W1 h1 h2 h3 => Yield.anyDepth hd m (hY pre x O W1 h1 h2 h3 (by have := h1.length_le; rw [stps_length, List.length_append, List.length_singleton] at this; omega))
  have H0 := Lib.hid h0
  have HBW := Lib.hid bW
  have HRD : Hid (Rd B1 ∧ Rd B2 ∧ ∀ k, k < W0.heap.size → Rd k) := ⟨hR1, hR2, hR0⟩
  have HBASE : Hid (∀ (k : Nat) (X : World), Cw.Good X ⟨cm, cl, co, ct, ra, rn, rcap, xs⟩ → Sl .i64 X qa qn qc rest → CallsIn F k Try.prog 36 #[.agg #[.int .u64 cm, .int .u64 cl, .int .u64 co, .int .u64 ct, .slice ra rn rcap], .slice qa qn qc] X fun e w' => BaseIs X w' e (Stp.one (Cw.c ⟨cm, cl, co, ct, ra, rn, rcap, xs⟩) rest ++ Stp.two (Cw.c ⟨cm, cl, co, ct, ra, rn, rcap, xs⟩) rest ++ [⟨0, [], true, Stp.more (Cw.c ⟨cm, cl, co, ct, ra, rn, rcap, xs⟩)⟩])) := Lib.hid fun k X h1 h2 => by subst hF; exact callsIn_wide.2 (base_is ⟨cm, cl, co, ct, ra, rn, rcap, xs⟩ qa qn qc rest X h1 h2)
  have HSTA : Hid (∀ (k : Nat) (X : World) (a : Option Addr) (m cap : Nat) (L R : List Int) (C : Int) (r : Bool), Stp.stands rest ⟨L, R, C⟩ = r → Sl .i64 X a m cap L → Sl .i64 X qa qn qc rest → CallsIn F k Try.prog 37 #[.slice a m cap, .slice qa qn qc] X fun e w' => e = .returned (.bool r) ∧ ∃ q, w' = X.drewN q) := Lib.hid fun k X a m cap L R C r hr h1 h2 => by subst hF; exact callsIn_wide.2 (stands17_is a qa m qn cap qc L rest R C r X h1 h2 hr)
  have HBYR : Hid (∀ (k : Nat) (X : World) (x : Rw), x.Good X → x.L.length ≤ 8 → x.R.length ≤ 8 → CallsIn F k Try.prog 38 #[x.v] X fun e w' => StepIs X w' e (Stp.step x.r)) := Lib.hid fun k X x h1 h2 h3 => by subst hF; exact callsIn_wide.2 (byRule_is x X h1 h2 h3)
  clear hF hc hq hb c1 c2 hW hO hJ hJx hY h0 bW hRw hk hRS hn2 hfit d1 d2 hR0 hR1 hR2 hl
  obtain ⟨k0, k1, k2, k3, k4, k5⟩ := HCC.out W (Keep.refl _ _)
  refine callsIn_of_wp Try.func35 rfl (hfn _) ?_ hro
  simp only [Try.ntmps35, List.size_toArray, List.length_cons, List.length_nil, Nat.reduceAdd, Nat.reduceSub, Array.replicate_succ, Array.replicate_zero, List.push_toArray, List.append_toArray, List.nil_append, List.cons_append]
  gi_wp2_with (gi_at_call 36; refine (HBASE.out _ _ (HCG.out.below HBW.out (Nat.le_refl _)) (HQ.out.below HBW.out (Nat.le_refl _))).mono ?_; rintro e W1 ⟨ya, m, yc, ys, rfl, hbp, hst, hnil⟩; have HBP := Lib.hid hbp; have HST := Lib.hid hst; have HNI := Lib.hid hnil; clear hbp hst hnil k0 k1 k2 k3 k4 k5)
  have hms : ys.length = m := HBP.out.made.len
  have HSTL : Hid (l = stps ys ++ Stp.ruled rest (ruls xs)) := Lib.hid (by rw [HLE.out, HST.out]; rfl)
  have HPS : Hid (Ps W1 ya m yc ys) := Lib.hid HBP.out.made.ps
  have hmm := HPS.out.2.1
  have hmx := HPS.out.2.2.1
  unfold maxLen at hmx
  have HW1 : Hid (Below W.heap.size W W1) := Lib.hid HBP.out.made.bel
  have HRB : Hid (∀ b off, ya = some ⟨b, off, none⟩ → 0 < m → W.heap.size ≤ b ∧ ∃ cs fr, W1.heap[b]? = some (.cells cs 37 fr)) := Lib.hid fun b off e h0 => by
    rcases HBP.out.made.own.2 with ⟨hv, hm0⟩ | ⟨g, cap', cur, hv, hg, hh, _⟩
    · omega
    · simp only [Value.slice.injEq] at hv
      obtain ⟨rfl, _, rfl⟩ := hv
      simp only [Option.some.injEq, Addr.mk.injEq] at e
      obtain ⟨rfl, rfl, _⟩ := e
      exact ⟨hg, cur, (0, 0), hh⟩
  have HMID0 : Hid (Mid17 W1 O J (ys.take 0) [] O W1) := Lib.hid ⟨HJ.out _ _ _ _ H0.out ((Keep.of_below HW1.out).mono fun k _ h => h.elim (fun h => h) (fun h => (HO.out k h).2)), Keep.refl _ _, fun k h _ => .inl h, fun k h => Nat.lt_of_lt_of_le (HO.out k h).2 HW1.out.size⟩
  gi_loopw [5, 12] (fun _ ix wr => ∃ (j : Nat) (U : Nat → Prop), j ≤ m ∧ ix = .int .i64 (j : Int) ∧ Hid (Mid17 W1 O J (ys.take j) (ys.take j) U wr)) (fun _ ix _ => m - (intOf ix).toNat)
  case atStart => exact ⟨0, O, Nat.zero_le _, rfl, HMID0.out⟩
  case round =>
    obtain ⟨j, U, hj, rfl, HM⟩ := hrel
    by_cases hlt : j < m
    · obtain ⟨b1, o1, e1, pa, pn, pc, P, an, cc, rfl, _, hx1, hx2, hx3, hx4, hsl, hwe, hc0, hc9, hz⟩ := HPS.out.one j hlt
      have hrb := HRB.out b1 o1 rfl (by omega)
      have hkb : ¬ O b1 ∧ ∀ x ∈ ys.take j, x.blk ≠ some b1 := ⟨fun h => by have := (HO.out b1 h).2; omega, fun x hx e => by
        obtain ⟨cs, fr, h⟩ := (HBP.out.new x (List.mem_of_mem_take hx)).1.blk e
        obtain ⟨cs', fr', h'⟩ := hrb.2
        rw [h] at h'
        simp at h'⟩
      have hy1 := HM.out.keep.cell hx1 hkb
      have hy2 := HM.out.keep.cell hx2 hkb
      have hy3 := HM.out.keep.cell hx3 hkb
      have hy4 := HM.out.keep.cell hx4 hkb
      have hlti : (j : Int) < (m : Int) := by omega
      have hlie : (ys.getD j Pw.no).Lies wr := by
        have hjl : j < ys.length := by omega
        have hn : (ys.getD j Pw.no).New W W1 := HBP.out.new _ (by rw [List.getD_eq_getElem?_getD, List.getElem?_eq_getElem hjl, Option.getD_some]; exact List.getElem_mem _)
        refine hn.1.block fun b hb => HM.out.keep.block b (by obtain ⟨cs, fr, h⟩ := hn.1.blk hb; exact lt_of_obj h) ⟨fun h => by have := (HO.out b h).2; have := hn.2 b hb; omega, fun x hx e => apart_take HBP.out.apart hjl x hx b e hb⟩
      rw [hz] at hlie
      have HLI := Lib.hid hlie
      have HZ := Lib.hid hz
      obtain ⟨X, hX⟩ : ∃ X, X = wr.alloc (.cells #[.int .i64 e1, .slice pa pn pc, .bool an, .int .u64 cc] 37) := ⟨_, rfl⟩
      have hbX : Below wr.heap.size wr X := by rw [hX]; exact (Below.refl _ wr).alloc (Nat.le_refl _) _
      have hMX := HM.out.alloc HJ.out (Nat.le_trans HW1.out.size HM.out.keep.size) hbX
      have hpre : ys.take (j + 1) = ys.take j ++ [⟨e1, pa, pn, pc, P, an, cc⟩] := by rw [take_snoc (by omega), hz]
      have hlX : Pw.Lies X ⟨e1, pa, pn, pc, P, an, cc⟩ := hlie.below hbX
      have HMX := Lib.hid hMX
      have HPR := Lib.hid hpre
      have HLX := Lib.hid hlX
      have HX := Lib.hid hX
      have hcX : X.heap[wr.heap.size]? = some (.cells #[.int .i64 e1, .slice pa pn pc, .bool an, .int .u64 cc] 37 (0, 0)) := by rw [hX]; exact heap_alloc_new wr _
      clear hx1 hx2 hx3 hx4 hsl hwe hc0 hc9 hz hrb hkb hlie hX hbX hMX hpre hlX
      gi_wp2
      rw [← HX.out]
      obtain ⟨fn, tmps, assign, body, hy, hR⟩ := HY.out (n - 1) (ys.take j) ⟨e1, pa, pn, pc, P, an, cc⟩ U X (by rw [← HPR.out]; exact prefix_take HSTL.out _) HLX.out HMX.out.inv
      have hy : (Instr.yield yl #[.agg #[.int .i64 e1, .slice pa pn pc, .bool an, .int .u64 cc]]).run Try.prog X = _ := hy
      have HR := Lib.hid hR
      clear hR
      have HR' : RoundIn F (n - 1) Try.prog yl fn tmps assign body X (AnswersO Ow17 ⟨e1, pa, pn, pc, P, an, cc⟩ J Jx (ys.take j ++ [⟨e1, pa, pn, pc, P, an, cc⟩]) U X) := HR.out
      rw [hy]
      simp only [Oper.uponIn]
      refine ⟨(fun h => by rw [hd] at h; cases h), HR'.mono ?_⟩
      rintro e W3 ⟨U3, hk3, ho3, (⟨rfl, hJ3⟩ | ⟨rfl, hJx3⟩)⟩
      · have HM3 : Hid (Mid17 W1 O J (ys.take (j + 1)) (ys.take (j + 1)) U3 W3) := Lib.hid (by rw [HPR.out]; exact HMX.out.told HLX.out hk3 ho3 hJ3)
        clear hk3 ho3 hJ3 hy
        gi_wp2
        go_roundw
        case rel => exact ⟨j + 1, U3, by omega, by go_num, HM3.out⟩
        case measure => simp [intOf]; omega
      · clear hy
        gi_wp2
        refine bodyPost_ret (results_none rfl _ _ _) rfl ?_
        exact ⟨⟨_, rfl⟩, U3, .inr ⟨_, trivial, hJx3⟩⟩
    · obtain rfl : j = m := by omega
      have HM1 : Hid (Mid17 W1 O J ys (ys ++ []) U wr) := Lib.hid (by
        have h := HM.out
        rw [List.take_of_length_le (by omega)] at h
        rw [List.append_nil]; exact h)
      clear HM
      have HFAR : Hid (∀ k, k < W.heap.size → ¬ O k → ¬ O k ∧ ∀ x ∈ ys, x.blk ≠ some k) := Lib.hid fun k hk ho => ⟨ho, fun x hx e => by have := (HBP.out.new x hx).2 k e; omega⟩
      have HBR : Hid (∀ (pre : List Pw) (U' : Nat → Prop) (X : World), Mid17 W1 O J ys pre U' X → Below W0.heap.size W0 X ∧ Keep (fun k => k = B1 ∨ k = B2) W X) := Lib.hid fun pre U' X h => by
        refine ⟨(HBW.out.trans (HW1.out.mono HBW.out.size)).trans (h.keep.below (by have := HBW.out.size; have := HW1.out.size; omega) fun k hk => HFAR.out k (by have := HBW.out.size; omega) fun ho => (HO.out k ho).1 (HRD.out.2.2 k hk)), (Keep.of_below HW1.out).trans' h.keep fun k hk hh => ⟨hk, HFAR.out k hk fun ho => ?_⟩⟩
        rcases hh with rfl | rfl
        · exact (HO.out _ ho).1 HRD.out.1
        · exact (HO.out _ ho).1 HRD.out.2.1
      obtain ⟨k0, k1, k2, k3, k4, k5⟩ := HCC.out wr (HBR.out _ _ _ HM1.out).2
      gi_wp2
      clear k0 k1 k2 k3 k4 k5
      gi_loopw [7, 24] (fun _ ix wr => ∃ (k : Nat) (zs : List Pw) (U : Nat → Prop), k ≤ rn ∧ ix = .int .i64 (k : Int) ∧ Hid (stps zs = Stp.ruled rest ((ruls xs).take k)) ∧ Hid (Mid17 W1 O J ys (ys ++ zs) U wr)) (fun _ ix _ => rn - (intOf ix).toNat)
      case atStart => exact ⟨0, [], U, Nat.zero_le _, rfl, rfl, HM1.out⟩
      case round =>
        obtain ⟨k, zs, U, hk, rfl, HZS, HM⟩ := hrel
        by_cases hlt2 : k < rn
        · have hbr := (HBR.out _ _ _ HM.out).1
          obtain ⟨rb, ro, la, ln, lc, L, ta, tn, tc, R, C, rfl, hrb, e1, e2, e3, hsL, hsR, hC0, hC9, hg⟩ := (HRS.out.below hbr (Nat.le_refl _)).one k hlt2
          have hat : (ruls xs).getD k Rul.no = ⟨L, R, C⟩ := by rw [ruls_at, hg]; rfl
          have hkx : k < (ruls xs).length := by rw [ruls_length, HRS.out.1]; exact hlt2
          have hmem : (⟨L, R, C⟩ : Rul) ∈ ruls xs := by
            rw [← hat, List.getD_eq_getElem?_getD, List.getElem?_eq_getElem hkx, Option.getD_some]; exact List.getElem_mem _
          have h88 := H8.out _ hmem
          have hnx := Stp.ruled_take (rest := rest) hkx
          rw [hat] at hnx
          have HNX := Lib.hid hnx
          have H88 := Lib.hid h88
          have HRG : Hid (Rw.Good wr ⟨la, ln, lc, L, ta, tn, tc, R, C⟩) := Lib.hid ⟨hsL, hsR, hC0, hC9⟩
          have HBR1 := Lib.hid hbr
          have hki : (k : Int) < (rn : Int) := by omega
          obtain ⟨q0, q1, q2, q3, q4, q5⟩ := HCC.out wr (HBR.out _ _ _ HM.out).2
          have hne1 : wr.heap.size ≠ B2 := by have := HW1.out.size; have := HM.out.keep.size; omega
          have hne2 : B2 ≠ wr.heap.size := hne1.symm
          have q6 : (wr.alloc (.cells #[.slice la ln lc, .slice ta tn tc, .int .u64 C] 41)).cell? ⟨B2, 0, none⟩ = some (.slice qa qn qc) := by rw [World.cell?_alloc_old _ _ _ hne2]; exact q5
          clear q0 q1 q2 q3 q4 hat hmem hnx h88 hsL hsR hg hbr
          obtain ⟨X, hX⟩ : ∃ X, X = wr.alloc (.cells #[.slice la ln lc, .slice ta tn tc, .int .u64 C] 41) := ⟨_, rfl⟩
          have HBX : Hid (Below wr.heap.size wr X) := Lib.hid (by rw [hX]; exact (Below.refl _ wr).alloc (Nat.le_refl _) _)
          have HCX : Hid (∀ Y, Below X.heap.size X Y → Y.cell? ⟨wr.heap.size, 0, none⟩ = some (.slice la ln lc) ∧ Y.cell? ⟨wr.heap.size, 1, none⟩ = some (.slice ta tn tc) ∧ Y.cell? ⟨wr.heap.size, 2, none⟩ = some (.int .u64 C)) := Lib.hid fun Y hY => by
            have h := (hY.block wr.heap.size (by rw [hX]; simp)).trans (show X.heap[wr.heap.size]? = some (.cells #[.slice la ln lc, .slice ta tn tc, .int .u64 C] 41 (0, 0)) by rw [hX]; exact heap_alloc_new wr _)
            refine ⟨?_, ?_, ?_⟩ <;> (rw [cell_of_row Y _ _ _ _ _ h]; rfl)
          have HX := Lib.hid hX
          have HSL := Lib.hid (HRG.out.1.below HBX.out (Nat.le_refl _))
          have HQX := Lib.hid (HQ.out.below (HBR1.out.trans (HBX.out.mono HBR1.out.size)) (Nat.le_refl _))
          clear hX
          by_cases hstd : Stp.stands rest ⟨L, R, C⟩ = true
          · have HSD := Lib.hid hstd
            clear hstd
            gi_wp2_with (first
              | (gi_at_call 37; rw [← HX.out]; refine (HSTA.out _ _ _ _ _ L R C true HSD.out HSL.out HQX.out).mono ?_; rintro e X1 ⟨rfl, hq⟩; have HD1 : Hid (Below X.heap.size X X1) := Lib.hid (below_drawn (Below.refl _ _) hq); obtain ⟨p0, p1, p2⟩ := HCX.out X1 HD1.out; clear hq)
              | (gi_at_call 38; refine (HBYR.out _ _ ⟨la, ln, lc, L, ta, tn, tc, R, C⟩ (HRG.out.below (HBX.out.trans (HD1.out.mono HBX.out.size)) (Nat.le_refl _)) H88.out.1 H88.out.2).mono ?_; rintro e X2 ⟨⟨e8, a8, n8, c8, p8, y8, d8⟩, rfl, hnew, hst, hbl⟩; have HNW := Lib.hid hnew; have HT8 := Lib.hid hst; have HL8 := Lib.hid hbl; clear hnew hst hbl; dsimp only [Pw.v]))
            have hb2 : Below wr.heap.size wr X2 := (HBX.out.trans (HD1.out.mono HBX.out.size)).trans (HL8.out.mono (Nat.le_trans HBX.out.size HD1.out.size))
            have HMX := Lib.hid (HM.out.alloc HJ.out (Nat.le_trans HW1.out.size HM.out.keep.size) hb2)
            have HTOLD : Hid (stps (zs ++ [⟨e8, a8, n8, c8, p8, y8, d8⟩]) = Stp.ruled rest ((ruls xs).take (k + 1))) := Lib.hid (by
              rw [stps_app, HZS.out, HNX.out, if_pos HSD.out]
              show _ ++ [Pw.s _] = _
              rw [HT8.out]; rfl)
            obtain ⟨fn, tmps, assign, body, hy, hR⟩ := HY.out (n - 1) (ys ++ zs) ⟨e8, a8, n8, c8, p8, y8, d8⟩ U X2 (by
              unfold Told17
              rw [List.append_assoc, stps_app, HTOLD.out, HSTL.out]
              obtain ⟨t, ht, _⟩ := Stp.ruled_first rest (ruls xs) (k + 1)
              rw [ht, ← List.append_assoc]; exact List.prefix_append _ _) HNW.out.1 HMX.out.inv
            have hy : (Instr.yield yl #[.agg #[.int .i64 e8, .slice a8 n8 c8, .bool y8, .int .u64 d8]]).run Try.prog X2 = _ := hy
            have HR : RoundIn F (n - 1) Try.prog yl fn tmps assign body X2 (AnswersO Ow17 ⟨e8, a8, n8, c8, p8, y8, d8⟩ J Jx (ys ++ zs ++ [⟨e8, a8, n8, c8, p8, y8, d8⟩]) U X2) := hR
            rw [hy]
            simp only [Oper.uponIn]
            refine ⟨(fun h => by rw [hd] at h; cases h), HR.mono ?_⟩
            rintro e W3 ⟨U3, hk3, ho3, (⟨rfl, hJ3⟩ | ⟨rfl, hJx3⟩)⟩
            · have HM3 : Hid (Mid17 W1 O J ys (ys ++ (zs ++ [⟨e8, a8, n8, c8, p8, y8, d8⟩])) U3 W3) := Lib.hid (by
                rw [← List.append_assoc]
                exact (HMX.out.told HNW.out.1 hk3 ho3 hJ3).drop fun b e => by
                  have h1 := HNW.out.2 b e
                  have h2 := HM.out.keep.size
                  have h3 := HBX.out.size
                  have h4 := HD1.out.size
                  omega)
              clear hk3 ho3 hJ3 hy hR HR
              gi_wp2
              go_roundw
              case rel => exact ⟨k + 1, _, U3, by omega, by go_num, HTOLD.out, HM3.out⟩
              case measure => simp [intOf]; omega
            · clear hy hR HR
              gi_wp2
              refine bodyPost_ret (results_none rfl _ _ _) rfl ?_
              exact ⟨⟨_, rfl⟩, U3, .inr ⟨_, trivial, hJx3⟩⟩
          · have hstf : Stp.stands rest ⟨L, R, C⟩ = false := by simpa using hstd
            have HSD := Lib.hid hstf
            clear hstd hstf
            gi_wp2_with (first
              | (gi_at_call 37; rw [← HX.out]; refine (HSTA.out _ _ _ _ _ L R C false HSD.out HSL.out HQX.out).mono ?_; rintro e X1 ⟨rfl, hq⟩; have HD1 : Hid (Below X.heap.size X X1) := Lib.hid (below_drawn (Below.refl _ _) hq); clear hq))
            have HM3 : Hid (Mid17 W1 O J ys (ys ++ zs) U X1) := Lib.hid (HM.out.alloc HJ.out (Nat.le_trans HW1.out.size HM.out.keep.size) (HBX.out.trans (HD1.out.mono HBX.out.size)))
            go_roundw
            case rel => exact ⟨k + 1, zs, U, by omega, by go_num, (by show _ = _; rw [HNX.out, HSD.out, HZS.out]; simp), HM3.out⟩
            case measure => simp [intOf]; omega
        · obtain rfl : k = rn := by omega
          gi_wp2
          go_end0
          refine ⟨⟨_, rfl⟩, U, .inl ⟨ys ++ zs, ?_, HM.out.inv⟩⟩
          rw [stps_app, HZS.out, HSTL.out, List.take_of_length_le (by rw [ruls_length, HRS.out.1]; exact Nat.le_refl _)]
end Go.Proofs.Ytpcebfefbnpbpaa
