/- The iterator over the parts of some bytes, which a function value tells apart: its contract. -/
import Derived.Shelf.Abstract
import Derived.Shelf.RegionOpen
import Derived.OwnWalkIn
import Derived.TacticsInMore
import Derived.LoopNIn
import Derived.LoopIn
import Derived.Test.YtflikfnehpaohaaIterLaw
import Derived.Test.YtflikfnehpaohaaLineRefC
namespace Go.Proofs.Ytflikfnehpaohaa
open Go.RowKit Go.Shelf
attribute [local go_sem] Oper.semAt_some

/-- the parts between the bytes that p names, the last one too -/
def partsA (p : Int → Bool) (cur : List Int) : List Int → List (List Int)
  | [] => [cur]
  | c :: cs => if p c then cur :: partsA p [] cs else partsA p (cur ++ [c]) cs

set_option maxRecDepth 100000 in
theorem partsA_at {p : Int → Bool} {b : List Int} {i f : Nat} (hfi : f ≤ i) (hi : i < b.length) :
    partsA p ((b.take i).drop f) (b.drop i) = if p (b[i]?.getD 0) then (b.take i).drop f :: partsA p ((b.take (i + 1)).drop (i + 1)) (b.drop (i + 1)) else partsA p ((b.take (i + 1)).drop f) (b.drop (i + 1)) := by
  have hd : b.drop i = b[i] :: b.drop (i + 1) := List.drop_eq_getElem_cons hi
  have hg : b[i]?.getD 0 = b[i] := by simp [hi]
  have ht : (b.take (i + 1)).drop f = (b.take i).drop f ++ [b[i]] := by
    rw [List.take_succ_eq_append_getElem hi, List.drop_append_of_le_length (by simp; omega)]
  have he : (b.take (i + 1)).drop (i + 1) = [] := List.drop_eq_nil_of_le (by simp; omega)
  rw [hd, partsA, hg, ht, he]

/-- a row of bytes that reads in the world W0, no longer than a million -/
abbrev Pc (W0 : World) := { x : Bd // x.Good W0 ∧ x.n ≤ 1000000 }

set_option maxRecDepth 100000 in
set_option maxHeartbeats 4000000 in
theorem pieces1_in (F : Fence) (n : Nat) (h7 : F.fn 60) (fe : Nat) (hfe : F.fn fe) (hro : F.round = none) (hn : 1 ≤ n) (l B1 B2 : Nat) (a : Option Addr) (len cap : Nat) (zs : List Int) (W0 : World) (hs : Sl .u8 W0 a len cap zs) (hlm : len ≤ 1000000) (p : Int → Bool)
    (hen : ∀ args W, (callFunc fe args).run Try.prog W = .ok (.enter fe args) W) (hE : ∀ c W, CallsIn F (n - 1) Try.prog fe #[.int .u8 c] W fun e W' => e = .returned (.bool (p c)) ∧ W' = W)
    (J Jx : List (Pc W0) → (Nat → Prop) → World → Prop)
    (hY : ∀ pre x O W, J pre O W → pre.length < len + 1 → YieldAt F (n - 1) Try.prog l #[x.1.v] W (Answers J Jx (pre ++ [x]) O W))
    (Rd : Nat → Prop) (hR0 : ∀ k, k < W0.heap.size → Rd k) (hR1 : Rd B1) (hR2 : Rd B2)
    (O : Nat → Prop) (W : World) (hRW : ∀ k, Rd k → k < W.heap.size) (hO : ∀ k, O k → ¬ Rd k)
    (hb : Below W0.heap.size W0 W) (hnil : a = none → cap = 0) (c1 : W.cell? ⟨B1, 0, none⟩ = some (.slice a len cap)) (c2 : W.cell? ⟨B2, 0, none⟩ = some (.func (.func fe) #[] #[])) (h0 : J [] O W) :
    CallsIn F n Try.prog 60 #[.func (.yield l) #[] #[], .pointer (some ⟨B1, 0, none⟩), .pointer (some ⟨B2, 0, none⟩)] W fun e W' => (∃ v, e = .returned v) ∧
      ∃ O', (∃ ys, ys.map (fun x : Pc W0 => x.1.zs) = partsA p [] zs ∧ J ys O' W') ∨ (∃ pre, (∃ k, pre.map (fun x : Pc W0 => x.1.zs) = (partsA p [] zs).take k) ∧ Jx pre O' W') := by
  have hstep : ∀ (O1 O3 : Nat → Prop) (A B : World), Keep Rd W A → (∀ k, O1 k → ¬ Rd k) → Keep (fun k => ¬ O1 k) A B → (∀ k, O3 k → O1 k ∨ A.heap.size ≤ k) → Keep Rd W B ∧ (∀ k, O3 k → ¬ Rd k) := by
    intro O1 O3 A B hA h1 hB h3
    refine ⟨hA.trans (hB.mono fun k _ hr ho => h1 k ho hr), fun k hk hr => ?_⟩
    rcases h3 k hk with h | h
    · exact h1 k h hr
    · have := hRW k hr; have := hA.size; omega
  have hnc := hs.2.1
  have hcm := hs.2.2.1
  unfold maxLen at hcm
  have HS := Lib.hid hs
  have HY := Lib.hid hY
  have HR0 := Lib.hid hR0
  have HR1 := Lib.hid hR1
  have HR2 := Lib.hid hR2
  have HB := Lib.hid hb
  have HST2 := Lib.hid hstep
  clear hs hY hR0 hR1 hR2 hb hRW hstep
  refine callsIn_of_wp Try.func60 rfl h7 ?_ hro
  simp only [Try.ntmps60, List.size_toArray, List.length_cons, List.length_nil, Nat.reduceAdd, Nat.reduceSub, Array.replicate_succ, Array.replicate_zero, List.push_toArray, List.append_toArray, List.nil_append, List.cons_append]
  gi_wp2
  gi_loopw [4, 9] (fun fv ix wr => ∃ (i f : Nat) (pre : List (Pc W0)) (O1 : Nat → Prop), f ≤ i ∧ i ≤ len ∧ pre.length ≤ i ∧ ix = .int .i64 (i : Int) ∧ fv = .int .i64 (f : Int) ∧ Hid (J pre O1 wr) ∧ Hid (pre.map (fun x : Pc W0 => x.1.zs) ++ partsA p ((zs.take i).drop f) (zs.drop i) = partsA p [] zs) ∧
      Hid (Keep Rd W wr) ∧ Hid (∀ k, O1 k → ¬ Rd k)) (fun _ ix _ => len - (intOf ix).toNat)
  case atStart => exact ⟨0, 0, [], O, Nat.le_refl _, Nat.zero_le _, Nat.le_refl _, rfl, rfl, h0, (by show _ = _; simp), Keep.refl _ _, hO⟩
  case round =>
    obtain ⟨i, f, pre, O1, hfi, hil, hpl, rfl, rfl, HJ, HE, HK, HO1⟩ := hrel
    have hk1 := HK.out.cell c1 HR1.out
    have hk2 := HK.out.cell c2 HR2.out
    have hbw : Below W0.heap.size W0 wr := HB.out.trans (HK.out.below HB.out.size HR0.out)
    by_cases hlt : i < len
    · obtain ⟨b, off, rfl, _, hc⟩ := (HS.out.below hbw (Nat.le_refl _)).at (by omega)
      have hx1 := hc i hlt
      have hat := partsA_at (p := p) (b := zs) hfi (by rw [HS.out.1]; exact hlt)
      obtain ⟨x, hx⟩ : ∃ x, x = zs.getD i 0 := ⟨_, rfl⟩
      rw [← List.getD_eq_getElem?_getD, ← hx] at hat
      rw [← hx] at hx1
      have hlti : (i : Int) < (len : Int) := by omega
      have hf0 : (0 : Int) ≤ (f : Int) := by omega
      have hfi1 : (f : Int) ≤ (i : Int) := by omega
      have hic : (i : Int) ≤ (cap : Int) := by omega
      have hfc1 : ¬ (f : Int) = (cap : Int) := by omega
      have hfc2 : ¬ (cap : Int) = (f : Int) := by omega
      have hfc3 : ¬ cap = f := by omega
      have hEx := hE x wr
      have hex := hen #[.int .u8 x] wr
      clear hc
      cases hp : p x
      · rw [hp] at hat hEx
        simp only [Bool.false_eq_true, if_false] at hat
        have hnext := HE.out
        rw [hat] at hnext
        have HNX := Lib.hid hnext
        clear hat hnext hx hp
        gi_wp2_with (refine hEx.mono ?_; rintro e w1 ⟨rfl, rfl⟩)
        go_roundw
        case rel => exact ⟨i + 1, f, pre, O1, by omega, by omega, by omega, by go_num, rfl, HJ.out, HNX.out, HK.out, HO1.out⟩
        case measure => simp [intOf]; omega
      · rw [hp] at hat hEx
        simp only [if_true] at hat
        obtain ⟨y, hy0⟩ : ∃ y : Pc W0, y.1 = ⟨some ⟨b, off + f, none⟩, i - f, cap - f, (zs.take i).drop f⟩ := ⟨⟨⟨some ⟨b, off + f, none⟩, i - f, cap - f, (zs.take i).drop f⟩, ⟨HS.out.part f i hfi (by omega), by show i - f ≤ 1000000; omega⟩⟩, rfl⟩
        have hyz : y.1.zs = (zs.take i).drop f := by rw [hy0]
        have hyv : y.1.v = .slice (some ⟨b, off + f, none⟩) (i - f) (cap - f) := by rw [hy0]; rfl
        have hnext : (pre ++ [y]).map (fun x : Pc W0 => x.1.zs) ++ partsA p ((zs.take (i + 1)).drop (i + 1)) (zs.drop (i + 1)) = partsA p [] zs := by
          rw [← HE.out, hat]; simp [hyz]
        have hstop : ∃ k, (pre ++ [y]).map (fun x : Pc W0 => x.1.zs) = (partsA p [] zs).take k := ⟨(pre ++ [y]).length, by rw [← hnext, List.take_append_of_le_length (by simp), List.take_of_length_le (by simp)]⟩
        have HNX := Lib.hid hnext
        have HST := Lib.hid hstop
        obtain ⟨fn, tmps, assign, body, hy, hR⟩ := HY.out pre y O1 wr HJ.out (by omega)
        rw [hyv] at hy
        clear hat hnext hx hp hyz hyv hy0 hstop
        gi_wp2_with (refine hEx.mono ?_; rintro e w1 ⟨rfl, rfl⟩)
        refine hR.mono ?_
        rintro e W3 ⟨O3, hk3, ho3, (⟨rfl, hJ3⟩ | ⟨rfl, hJx3⟩)⟩
        all_goals have hst := HST2.out O1 O3 _ _ HK.out HO1.out hk3 ho3
        · gi_wp2
          go_roundw
          case rel => exact ⟨i + 1, i + 1, pre ++ [y], O3, Nat.le_refl _, by omega, by simp; omega, by go_num, by go_num, hJ3, HNX.out, hst.1, hst.2⟩
          case measure => simp [intOf]; omega
        · gi_wp2
          refine bodyPost_ret (results_none rfl _ _ _) rfl ?_
          exact ⟨⟨_, rfl⟩, O3, .inr ⟨pre ++ [y], HST.out, hJx3⟩⟩
    · obtain rfl : i = len := by omega
      have hd : zs.drop i = [] := List.drop_eq_nil_of_le (by rw [HS.out.1]; exact Nat.le_refl _)
      have hnlt : ¬ (i : Int) < (i : Int) := by omega
      have hf0 : (0 : Int) ≤ (f : Int) := by omega
      have hfi1 : (f : Int) ≤ (i : Int) := by omega
      have hout : ∀ y : Pc W0, y.1.zs = (zs.take i).drop f → (pre ++ [y]).map (fun x : Pc W0 => x.1.zs) = partsA p [] zs := by
        intro y hyz
        rw [← HE.out, hd]; simp [partsA, hyz]
      have HOUT := Lib.hid hout
      clear hout
      have hl0 : ((zs.take i).drop f).length = i - f := by rw [List.length_drop, List.length_take, HS.out.1]; omega
      by_cases hfc : f = cap
      · obtain ⟨y, hy0⟩ : ∃ y : Pc W0, y.1 = ⟨a, 0, 0, (zs.take i).drop f⟩ :=
          ⟨⟨⟨a, 0, 0, (zs.take i).drop f⟩, by
            have h9 : (zs.take i).drop f = [] := List.eq_nil_of_length_eq_zero (by omega)
            rw [h9]
            refine ⟨?_, Nat.zero_le _⟩
            exact ⟨rfl, Nat.le_refl _, by show 0 ≤ maxLen; omega, by simp, .inl rfl⟩⟩, rfl⟩
        have hyv : y.1.v = .slice a 0 0 := by rw [hy0]; rfl
        have HO := Lib.hid (HOUT.out y (by rw [hy0]))
        obtain ⟨fn, tmps, assign, body, hy, hR⟩ := HY.out pre y O1 wr HJ.out (by omega)
        rw [hyv] at hy
        clear hyv hy0 hl0
        subst hfc
        gi_wp2
        refine hR.mono ?_
        rintro e W3 ⟨O3, hk3, ho3, (⟨rfl, hJ3⟩ | ⟨rfl, hJx3⟩)⟩
        all_goals have hst := HST2.out O1 O3 _ _ HK.out HO1.out hk3 ho3
        · gi_wp2
          go_end0
          exact ⟨⟨_, rfl⟩, O3, .inl ⟨pre ++ [y], HO.out, hJ3⟩⟩
        · gi_wp2
          go_end0
          exact ⟨⟨_, rfl⟩, O3, .inr ⟨pre ++ [y], ⟨(partsA p [] zs).length, by rw [HO.out, List.take_length]⟩, hJx3⟩⟩
      · have hfc1 : ¬ (f : Int) = (cap : Int) := by omega
        have hfc2 : ¬ (cap : Int) = (f : Int) := by omega
        have hfc3 : ¬ cap = f := by omega
        have hic : (i : Int) ≤ (cap : Int) := by omega
        obtain ⟨x, rfl⟩ : ∃ x, a = some x := by
          cases a with
          | none => have := hnil rfl; omega
          | some x => exact ⟨x, rfl⟩
        obtain ⟨y, hy0⟩ : ∃ y : Pc W0, y.1 = ⟨some (x.add f), i - f, cap - f, (zs.take i).drop f⟩ :=
          ⟨⟨⟨some (x.add f), i - f, cap - f, (zs.take i).drop f⟩, by
            refine ⟨?_, by show i - f ≤ 1000000; omega⟩
            rcases Nat.lt_or_ge f i with h9 | h9
            · obtain ⟨b5, off5, e5, _, _⟩ := HS.out.at (by omega)
              simp only [Option.some.injEq] at e5
              subst e5
              rw [show (⟨b5, off5, none⟩ : Addr).add f = ⟨b5, off5 + f, none⟩ from by simp [Addr.add]]
              exact HS.out.part f i hfi (Nat.le_refl _)
            · exact ⟨hl0, by show i - f ≤ cap - f; omega, by show cap - f ≤ maxLen; unfold maxLen; omega, fun z hz => HS.out.2.2.2.1 z (List.mem_of_mem_take (List.mem_of_mem_drop hz)), .inl (by show i - f = 0; omega)⟩⟩, rfl⟩
        have hyv : y.1.v = .slice (some (x.add f)) (i - f) (cap - f) := by rw [hy0]; rfl
        have HO := Lib.hid (HOUT.out y (by rw [hy0]))
        obtain ⟨fn, tmps, assign, body, hy, hR⟩ := HY.out pre y O1 wr HJ.out (by omega)
        rw [hyv] at hy
        clear hyv hy0 hl0
        gi_wp2
        refine hR.mono ?_
        rintro e W3 ⟨O3, hk3, ho3, (⟨rfl, hJ3⟩ | ⟨rfl, hJx3⟩)⟩
        all_goals have hst := HST2.out O1 O3 _ _ HK.out HO1.out hk3 ho3
        · gi_wp2
          go_end0
          exact ⟨⟨_, rfl⟩, O3, .inl ⟨pre ++ [y], HO.out, hJ3⟩⟩
        · gi_wp2
          go_end0
          exact ⟨⟨_, rfl⟩, O3, .inr ⟨pre ++ [y], ⟨(partsA p [] zs).length, by rw [HO.out, List.take_length]⟩, hJx3⟩⟩

set_option maxRecDepth 100000 in
/-- the function values that part bytes -/
theorem isEnd_in (F : Fence) (n : Nat) (h : F.fn 43) (hro : F.round = none) (c : Int) (W : World) :
    CallsIn F n Try.prog 43 #[.int .u8 c] W fun e W' => e = .returned (.bool (c == 10)) ∧ W' = W := by
  refine callsIn_of_wp Try.func43 rfl h ?_ hro
  simp only [Try.ntmps43, List.size_toArray, List.length_cons, List.length_nil, Nat.reduceAdd, Nat.reduceSub, Array.replicate_succ, Array.replicate_zero, List.push_toArray, List.append_toArray, List.nil_append, List.cons_append]
  gi_wp2
  go_ret
  exact ⟨rfl, rfl⟩
set_option maxRecDepth 100000 in
theorem isEnd_enters : ∀ args W, (callFunc 43 args).run Try.prog W = .ok (.enter 43 args) W := enters_of Try.func43 (by kernel_rfl) rfl

set_option maxRecDepth 100000 in
theorem isBlank_in (F : Fence) (n : Nat) (h : F.fn 62) (hro : F.round = none) (c : Int) (W : World) :
    CallsIn F n Try.prog 62 #[.int .u8 c] W fun e W' => e = .returned (.bool (Line.isBlank c)) ∧ W' = W := by
  refine callsIn_of_wp Try.func62 rfl h ?_ hro
  simp only [Try.ntmps62, List.size_toArray, List.length_cons, List.length_nil, Nat.reduceAdd, Nat.reduceSub, Array.replicate_succ, Array.replicate_zero, List.push_toArray, List.append_toArray, List.nil_append, List.cons_append]
  obtain ⟨r, hr⟩ : ∃ r, Line.isBlank c = r := ⟨_, rfl⟩
  rw [hr]
  unfold Line.isBlank at hr
  subst hr
  by_cases h1 : c = 32
  · subst h1
    gi_wp2
    go_ret
    exact ⟨rfl, rfl⟩
  · have hb1 : (c == 32) = false := by simpa using h1
    by_cases h2 : c = 9
    · subst h2
      gi_wp2
      go_ret
      exact ⟨rfl, rfl⟩
    · have hb2 : (c == 9) = false := by simpa using h2
      have hr : (c == 32 || c == 9) = false := by rw [hb1, hb2]; rfl
      rw [hr]
      gi_wp2
      go_ret
      exact ⟨rfl, rfl⟩
set_option maxRecDepth 100000 in
theorem isBlank_enters : ∀ args W, (callFunc 62 args).run Try.prog W = .ok (.enter 62 args) W := enters_of Try.func62 (by kernel_rfl) rfl

set_option maxRecDepth 100000 in
set_option maxHeartbeats 1000000 in
/-- the maker: two boxes, and a function value that has caught them -/
theorem pieces_in (F : Fence) (n : Nat) (h5 : F.fn 42) (hro : F.round = none) (a : Option Addr) (len cap fe : Nat) (w : World) :
    CallsIn F n Try.prog 42 #[.slice a len cap, .func (.func fe) #[] #[]] w fun e w' => e = .returned (.func (.func 60) #[] #[.pointer (some ⟨w.heap.size, 0, none⟩), .pointer (some ⟨w.heap.size + 1, 0, none⟩)]) ∧ w' = (w.alloc (.cells #[.slice a len cap] 22)).alloc (.cells #[.func (.func fe) #[] #[]] 61) := by
  refine callsIn_of_wp Try.func42 rfl h5 ?_ hro
  simp only [Try.ntmps42, List.size_toArray, List.length_cons, List.length_nil, Nat.reduceAdd, Nat.reduceSub, Array.replicate_succ, Array.replicate_zero, List.push_toArray, List.append_toArray, List.nil_append, List.cons_append]
  gi_wp2
  go_ret
  exact ⟨rfl, rfl⟩

set_option maxRecDepth 100000 in
/-- what the maker hands back may be ranged over: all parts, or those up to where a round said 'no more' -/
theorem pieces_iter (F : Fence) (n : Nat) (h7 : F.fn 60) (fe : Nat) (hfe : F.fn fe) (hro : F.round = none) (hn : 1 ≤ n) (B1 B2 : Nat) (a : Option Addr) (len cap : Nat) (zs : List Int) (W0 : World) (hs : Sl .u8 W0 a len cap zs) (hlm : len ≤ 1000000) (hnil : a = none → cap = 0) (p : Int → Bool)
    (hen : ∀ args W, (callFunc fe args).run Try.prog W = .ok (.enter fe args) W) (hE : ∀ c W, CallsIn F (n - 1) Try.prog fe #[.int .u8 c] W fun e W' => e = .returned (.bool (p c)) ∧ W' = W)
    (w : World) (h1 : B1 < w.heap.size) (h2 : B2 < w.heap.size) (hb : Below W0.heap.size W0 w) (c1 : w.cell? ⟨B1, 0, none⟩ = some (.slice a len cap)) (c2 : w.cell? ⟨B2, 0, none⟩ = some (.func (.func fe) #[] #[])) :
    Iter F n Try.prog 60 #[.pointer (some ⟨B1, 0, none⟩), .pointer (some ⟨B2, 0, none⟩)] (fun x : Pc W0 => #[x.1.v]) (fun k => k < W0.heap.size ∨ k = B1 ∨ k = B2)
      (fun ys => ys.map (fun x : Pc W0 => x.1.zs) = partsA p [] zs) (fun pre => ∃ k, pre.map (fun x : Pc W0 => x.1.zs) = (partsA p [] zs).take k) (len + 1) w := fun l J Jx O W hW hO _ _ hY h0 =>
  pieces1_in F n h7 fe hfe hro hn l B1 B2 a len cap zs W0 hs hlm p hen hE J Jx hY _ (fun _ h => .inl h) (.inr (.inl rfl)) (.inr (.inr rfl)) O W
    (by have h9 := hW.size; have h8 := hb.size; rintro k (h | rfl | rfl) <;> omega) (fun k h => (hO k h).1) (hb.trans (hW.below hb.size (fun _ h => .inl h))) hnil (hW.cell c1 (.inr (.inl rfl))) (hW.cell c2 (.inr (.inr rfl))) h0

end Go.Proofs.Ytflikfnehpaohaa
