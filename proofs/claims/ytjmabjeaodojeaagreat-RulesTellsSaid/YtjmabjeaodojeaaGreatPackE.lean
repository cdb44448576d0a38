import Derived.Shelf.Abstract
import Derived.Shelf.RegionOpen
import Derived.OwnWalkIn
import Derived.TacticsInMore
import Derived.LoopNIn
import Derived.LoopIn
import Derived.Test.YtjmabjeaodojeaaGreatIterLaw
import Derived.Test.YtjmabjeaodojeaaGreatPackF
import Derived.Test.YtjmabjeaodojeaaGreatGenStr
import Derived.Test.YtjmabjeaodojeaaGreatPackB
import Derived.Deep.OwnRows
import Derived.Laws.CopyOwn
import Derived.Maps.OwnIn
import Derived.Maps.AppendAt
import Derived.IntWalk
/- Used by the law. -/
namespace Go.Proofs.YtjmabjeaodojeaaGreat
open Go.RowKit Go.Shelf
attribute [local go_sem] Oper.semAt_some

def partsA (p : Int → Bool) (cur : List Int) : List Int → List (List Int)
  | [] => [cur]
  | c :: cs => if p c then cur :: partsA p [] cs else partsA p (cur ++ [c]) cs

theorem partsA_at {p : Int → Bool} {b : List Int} {i f : Nat} (hfi : f ≤ i) (hi : i < b.length) :
    partsA p ((b.take i).drop f) (b.drop i) = if p (b[i]?.getD 0) then (b.take i).drop f :: partsA p ((b.take (i + 1)).drop (i + 1)) (b.drop (i + 1)) else partsA p ((b.take (i + 1)).drop f) (b.drop (i + 1)) := by
  have hd : b.drop i = b[i] :: b.drop (i + 1) := List.drop_eq_getElem_cons hi
  have hg : b[i]?.getD 0 = b[i] := by simp [hi]
  have ht : (b.take (i + 1)).drop f = (b.take i).drop f ++ [b[i]] := by
    rw [List.take_succ_eq_append_getElem hi, List.drop_append_of_le_length (by simp; omega)]
  have he : (b.take (i + 1)).drop (i + 1) = [] := List.drop_eq_nil_of_le (by simp; omega)
  rw [hd, partsA, hg, ht, he]

abbrev Pc (W0 : World) := { x : Bd // x.Good W0 ∧ x.n ≤ 1000000 }

set_option maxRecDepth 100000 in
set_option maxHeartbeats 4000000 in
theorem pieces1_in (F : Fence) (n : Nat) (h7 : F.fn 59) (fe : Nat) (hfe : F.fn fe) (hro : F.round = none) (hn : 1 ≤ n) (l B1 B2 : Nat) (a : Option Addr) (len cap : Nat) (zs : List Int) (W0 : World) (hs : Sl .u8 W0 a len cap zs) (hlm : len ≤ 1000000) (p : Int → Bool)
    (hen : ∀ args W, (callFunc fe args).run Tryz.prog W = .ok (.enter fe args) W) (hE : ∀ c W, CallsIn F (n - 1) Tryz.prog fe #[.int .u8 c] W fun e W' => e = .returned (.bool (p c)) ∧ W' = W)
    (J Jx : List (Pc W0) → (Nat → Prop) → World → Prop)
    (hY : ∀ pre x O W, J pre O W → pre.length < len + 1 → YieldAt F (n - 1) Tryz.prog l #[x.1.v] W (Answers J Jx (pre ++ [x]) O W))
    (Rd : Nat → Prop) (hR0 : ∀ k, k < W0.heap.size → Rd k) (hR1 : Rd B1) (hR2 : Rd B2)
    (O : Nat → Prop) (W : World) (hRW : ∀ k, Rd k → k < W.heap.size) (hO : ∀ k, O k → ¬ Rd k)
    (hb : Below W0.heap.size W0 W) (hnil : a = none → cap = 0) (c1 : W.cell? ⟨B1, 0, none⟩ = some (.slice a len cap)) (c2 : W.cell? ⟨B2, 0, none⟩ = some (.func (.func fe) #[] #[])) (h0 : J [] O W) :
    CallsIn F n Tryz.prog 59 #[.func (.yield l) #[] #[], .pointer (some ⟨B1, 0, none⟩), .pointer (some ⟨B2, 0, none⟩)] W fun e W' => (∃ v, e = .returned v) ∧
      ∃ O', (∃ ys, ys.map (fun x : Pc W0 => x.1.zs) = partsA p [] zs ∧ J ys O' W') ∨ (∃ pre, (∃ k, pre.map (fun x : Pc W0 => x.1.zs) = (partsA p [] zs).take k) ∧ Jx pre O' W') := by
  have hstep : ∀ (O1 O3 : Nat → Prop) (A B : World), Keep Rd W A → (∀ k, O1 k → ¬ Rd k) → Keep (fun k => ¬ O1 k) A B → (∀ k, O3 k → O1 k ∨ A.heap.size ≤ k) → Keep Rd W B ∧ (∀ k, O3 k → ¬ Rd k) := by
    intro O1 O3 A B hA h1 hB h3
    refine ⟨hA.trans (hB.mono fun k _ hr ho => h1 k ho hr), fun k hk hr => ?_⟩
    rcases h3 k hk with h | h
    · exact h1 k h hr
    · have := hRW k hr; have := hA.size; omega
  have hnc := hs.2.1
  have hcm := hs.2.2.1
  unfold maxLen at hcm
  have HS := Lib.hid hs
  have HY := Lib.hid hY
  have HR0 := Lib.hid hR0
  have HR1 := Lib.hid hR1
  have HR2 := Lib.hid hR2
  have HB := Lib.hid hb
  have HST2 := Lib.hid hstep
  clear hs hY hR0 hR1 hR2 hb hRW hstep
  refine callsIn_of_wp Tryz.func59 rfl h7 ?_ hro
  simp only [Tryz.ntmps59, List.size_toArray, List.length_cons, List.length_nil, Nat.reduceAdd, Nat.reduceSub, Array.replicate_succ, Array.replicate_zero, List.push_toArray, List.append_toArray, List.nil_append, List.cons_append]
  gi_wp2
  gi_loopw [4, 9] (fun fv ix wr => ∃ (i f : Nat) (pre : List (Pc W0)) (O1 : Nat → Prop), f ≤ i ∧ i ≤ len ∧ pre.length ≤ i ∧ ix = .int .i64 (i : Int) ∧ fv = .int .i64 (f : Int) ∧ Hid (J pre O1 wr) ∧ Hid (pre.map (fun x : Pc W0 => x.1.zs) ++ partsA p ((zs.take i).drop f) (zs.drop i) = partsA p [] zs) ∧
      Hid (Keep Rd W wr) ∧ Hid (∀ k, O1 k → ¬ Rd k)) (fun _ ix _ => len - (intOf ix).toNat)
  case atStart => exact ⟨0, 0, [], O, Nat.le_refl _, Nat.zero_le _, Nat.le_refl _, rfl, rfl, h0, (by show _ = _; simp), Keep.refl _ _, hO⟩
  case round =>
    obtain ⟨i, f, pre, O1, hfi, hil, hpl, rfl, rfl, HJ, HE, HK, HO1⟩ := hrel
    have hk1 := HK.out.cell c1 HR1.out
    have hk2 := HK.out.cell c2 HR2.out
    have hbw : Below W0.heap.size W0 wr := HB.out.trans (HK.out.below HB.out.size HR0.out)
    by_cases hlt : i < len
    · obtain ⟨b, off, rfl, _, hc⟩ := (HS.out.below hbw (Nat.le_refl _)).at (by omega)
      have hx1 := hc i hlt
      have hat := partsA_at (p := p) (b := zs) hfi (by rw [HS.out.1]; exact hlt)
      obtain ⟨x, hx⟩ : ∃ x, x = zs.getD i 0 := ⟨_, rfl⟩
      rw [← List.getD_eq_getElem?_getD, ← hx] at hat
      rw [← hx] at hx1
      have hlti : (i : Int) < (len : Int) := by omega
      have hf0 : (0 : Int) ≤ (f : Int) := by omega
      have hfi1 : (f : Int) ≤ (i : Int) := by omega
      have hic : (i : Int) ≤ (cap : Int) := by omega
      have hfc1 : ¬ (f : Int) = (cap : Int) := by omega
      have hfc2 : ¬ (cap : Int) = (f : Int) := by omega
      have hfc3 : ¬ cap = f := by omega
      have hEx := hE x wr
      have hex := hen #[.int .u8 x] wr
      clear hc
      cases hp : p x
      · rw [hp] at hat hEx
        simp only [Bool.false_eq_true, if_false] at hat
        have hnext := HE.out
        rw [hat] at hnext
        have HNX := Lib.hid hnext
        clear hat hnext hx hp
        gi_wp2_with (refine hEx.mono ?_; rintro e w1 ⟨rfl, rfl⟩)
        go_roundw
        case rel => exact ⟨i + 1, f, pre, O1, by omega, by omega, by omega, by go_num, rfl, HJ.out, HNX.out, HK.out, HO1.out⟩
        case measure => simp [intOf]; omega
      · rw [hp] at hat hEx
        simp only [if_true] at hat
        obtain ⟨y, hy0⟩ : ∃ y : Pc W0, y.1 = ⟨some ⟨b, off + f, none⟩, i - f, cap - f, (zs.take i).drop f⟩ := ⟨⟨⟨some ⟨b, off + f, none⟩, i - f, cap - f, (zs.take i).drop f⟩, ⟨HS.out.part f i hfi (by omega), by show i - f ≤ 1000000; omega⟩⟩, rfl⟩
        have hyz : y.1.zs = (zs.take i).drop f := by rw [hy0]
        have hyv : y.1.v = .slice (some ⟨b, off + f, none⟩) (i - f) (cap - f) := by rw [hy0]; rfl
        have hnext : (pre ++ [y]).map (fun x : Pc W0 => x.1.zs) ++ partsA p ((zs.take (i + 1)).drop (i + 1)) (zs.drop (i + 1)) = partsA p [] zs := by
          rw [← HE.out, hat]; simp [hyz]
        have hstop : ∃ k, (pre ++ [y]).map (fun x : Pc W0 => x.1.zs) = (partsA p [] zs).take k := ⟨(pre ++ [y]).length, by rw [← hnext, List.take_append_of_le_length (by simp), List.take_of_length_le (by simp)]⟩
        have HNX := Lib.hid hnext
        have HST := Lib.hid hstop
        obtain ⟨fn, tmps, assign, body, hy, hR⟩ := HY.out pre y O1 wr HJ.out (by omega)
        rw [hyv] at hy
        clear hat hnext hx hp hyz hyv hy0 hstop
        gi_wp2_with (refine hEx.mono ?_; rintro e w1 ⟨rfl, rfl⟩)
        refine hR.mono ?_
        rintro e W3 ⟨O3, hk3, ho3, (⟨rfl, hJ3⟩ | ⟨rfl, hJx3⟩)⟩
        all_goals have hst := HST2.out O1 O3 _ _ HK.out HO1.out hk3 ho3
        · gi_wp2
          go_roundw
          case rel => exact ⟨i + 1, i + 1, pre ++ [y], O3, Nat.le_refl _, by omega, by simp; omega, by go_num, by go_num, hJ3, HNX.out, hst.1, hst.2⟩
          case measure => simp [intOf]; omega
        · gi_wp2
          refine bodyPost_ret (results_none rfl _ _ _) rfl ?_
          exact ⟨⟨_, rfl⟩, O3, .inr ⟨pre ++ [y], HST.out, hJx3⟩⟩
    · obtain rfl : i = len := by omega
      have hd : zs.drop i = [] := List.drop_eq_nil_of_le (by rw [HS.out.1]; exact Nat.le_refl _)
      have hnlt : ¬ (i : Int) < (i : Int) := by omega
      have hf0 : (0 : Int) ≤ (f : Int) := by omega
      have hfi1 : (f : Int) ≤ (i : Int) := by omega
      have hout : ∀ y : Pc W0, y.1.zs = (zs.take i).drop f → (pre ++ [y]).map (fun x : Pc W0 => x.1.zs) = partsA p [] zs := by
        intro y hyz
        rw [← HE.out, hd]; simp [partsA, hyz]
      have HOUT := Lib.hid hout
      clear hout
      have hl0 : ((zs.take i).drop f).length = i - f := by rw [List.length_drop, List.length_take, HS.out.1]; omega
      by_cases hfc : f = cap
      · obtain ⟨y, hy0⟩ : ∃ y : Pc W0, y.1 = ⟨a, 0, 0, (zs.take i).drop f⟩ :=
          ⟨⟨⟨a, 0, 0, (zs.take i).drop f⟩, by
            have h9 : (zs.take i).drop f = [] := List.eq_nil_of_length_eq_zero (by omega)
            rw [h9]
            refine ⟨?_, Nat.zero_le _⟩
            exact ⟨rfl, Nat.le_refl _, by show 0 ≤ maxLen; omega, by simp, .inl rfl⟩⟩, rfl⟩
        have hyv : y.1.v = .slice a 0 0 := by rw [hy0]; rfl
        have HO := Lib.hid (HOUT.out y (by rw [hy0]))
        obtain ⟨fn, tmps, assign, body, hy, hR⟩ := HY.out pre y O1 wr HJ.out (by omega)
        rw [hyv] at hy
        clear hyv hy0 hl0
        subst hfc
        gi_wp2
        refine hR.mono ?_
        rintro e W3 ⟨O3, hk3, ho3, (⟨rfl, hJ3⟩ | ⟨rfl, hJx3⟩)⟩
        all_goals have hst := HST2.out O1 O3 _ _ HK.out HO1.out hk3 ho3
        · gi_wp2
          go_end0
          exact ⟨⟨_, rfl⟩, O3, .inl ⟨pre ++ [y], HO.out, hJ3⟩⟩
        · gi_wp2
          go_end0
          exact ⟨⟨_, rfl⟩, O3, .inr ⟨pre ++ [y], ⟨(partsA p [] zs).length, by rw [HO.out, List.take_length]⟩, hJx3⟩⟩
      · have hfc1 : ¬ (f : Int) = (cap : Int) := by omega
        have hfc2 : ¬ (cap : Int) = (f : Int) := by omega
        have hfc3 : ¬ cap = f := by omega
        have hic : (i : Int) ≤ (cap : Int) := by omega
        obtain ⟨x, rfl⟩ : ∃ x, a = some x := by
          cases a with
          | none => have := hnil rfl; omega
          | some x => exact ⟨x, rfl⟩
        obtain ⟨y, hy0⟩ : ∃ y : Pc W0, y.1 = ⟨some (x.add f), i - f, cap - f, (zs.take i).drop f⟩ :=
          ⟨⟨⟨some (x.add f), i - f, cap - f, (zs.take i).drop f⟩, by
            refine ⟨?_, by show i - f ≤ 1000000; omega⟩
            rcases Nat.lt_or_ge f i with h9 | h9
            · obtain ⟨b5, off5, e5, _, _⟩ := HS.out.at (by omega)
              simp only [Option.some.injEq] at e5
              subst e5
              rw [show (⟨b5, off5, none⟩ : Addr).add f = ⟨b5, off5 + f, none⟩ from by simp [Addr.add]]
              exact HS.out.part f i hfi (Nat.le_refl _)
            · exact ⟨hl0, by show i - f ≤ cap - f; omega, by show cap - f ≤ maxLen; unfold maxLen; omega, fun z hz => HS.out.2.2.2.1 z (List.mem_of_mem_take (List.mem_of_mem_drop hz)), .inl (by show i - f = 0; omega)⟩⟩, rfl⟩
        have hyv : y.1.v = .slice (some (x.add f)) (i - f) (cap - f) := by rw [hy0]; rfl
        have HO := Lib.hid (HOUT.out y (by rw [hy0]))
        obtain ⟨fn, tmps, assign, body, hy, hR⟩ := HY.out pre y O1 wr HJ.out (by omega)
        rw [hyv] at hy
        clear hyv hy0 hl0
        gi_wp2
        refine hR.mono ?_
        rintro e W3 ⟨O3, hk3, ho3, (⟨rfl, hJ3⟩ | ⟨rfl, hJx3⟩)⟩
        all_goals have hst := HST2.out O1 O3 _ _ HK.out HO1.out hk3 ho3
        · gi_wp2
          go_end0
          exact ⟨⟨_, rfl⟩, O3, .inl ⟨pre ++ [y], HO.out, hJ3⟩⟩
        · gi_wp2
          go_end0
          exact ⟨⟨_, rfl⟩, O3, .inr ⟨pre ++ [y], ⟨(partsA p [] zs).length, by rw [HO.out, List.take_length]⟩, hJx3⟩⟩

set_option maxRecDepth 100000 in
theorem isEnd_in (F : Fence) (n : Nat) (h : F.fn 32) (hro : F.round = none) (c : Int) (W : World) :
    CallsIn F n Tryz.prog 32 #[.int .u8 c] W fun e W' => e = .returned (.bool (c == 10)) ∧ W' = W := by
  refine callsIn_of_wp Tryz.func32 rfl h ?_ hro
  simp only [Tryz.ntmps32, List.size_toArray, List.length_cons, List.length_nil, Nat.reduceAdd, Nat.reduceSub, Array.replicate_succ, Array.replicate_zero, List.push_toArray, List.append_toArray, List.nil_append, List.cons_append]
  gi_wp2
  go_ret
  exact ⟨rfl, rfl⟩
set_option maxRecDepth 100000 in
theorem isEnd_enters : ∀ args W, (callFunc 32 args).run Tryz.prog W = .ok (.enter 32 args) W := enters_of Tryz.func32 (by kernel_rfl) rfl

set_option maxRecDepth 100000 in
theorem isBlank_in (F : Fence) (n : Nat) (h : F.fn 92) (hro : F.round = none) (c : Int) (W : World) :
    CallsIn F n Tryz.prog 92 #[.int .u8 c] W fun e W' => e = .returned (.bool (Line.isBlank c)) ∧ W' = W := by
  refine callsIn_of_wp Tryz.func92 rfl h ?_ hro
  simp only [Tryz.ntmps92, List.size_toArray, List.length_cons, List.length_nil, Nat.reduceAdd, Nat.reduceSub, Array.replicate_succ, Array.replicate_zero, List.push_toArray, List.append_toArray, List.nil_append, List.cons_append]
  obtain ⟨r, hr⟩ : ∃ r, Line.isBlank c = r := ⟨_, rfl⟩
  rw [hr]
  unfold Line.isBlank at hr
  subst hr
  by_cases h1 : c = 32
  · subst h1
    gi_wp2
    go_ret
    exact ⟨rfl, rfl⟩
  · have hb1 : (c == 32) = false := by simpa using h1
    by_cases h2 : c = 9
    · subst h2
      gi_wp2
      go_ret
      exact ⟨rfl, rfl⟩
    · have hb2 : (c == 9) = false := by simpa using h2
      have hr : (c == 32 || c == 9) = false := by rw [hb1, hb2]; rfl
      rw [hr]
      gi_wp2
      go_ret
      exact ⟨rfl, rfl⟩
set_option maxRecDepth 100000 in
theorem isBlank_enters : ∀ args W, (callFunc 92 args).run Tryz.prog W = .ok (.enter 92 args) W := enters_of Tryz.func92 (by kernel_rfl) rfl

set_option maxRecDepth 100000 in
set_option maxHeartbeats 1000000 in
theorem pieces_in (F : Fence) (n : Nat) (h5 : F.fn 31) (hro : F.round = none) (a : Option Addr) (len cap fe : Nat) (w : World) :
    CallsIn F n Tryz.prog 31 #[.slice a len cap, .func (.func fe) #[] #[]] w fun e w' => e = .returned (.func (.func 59) #[] #[.pointer (some ⟨w.heap.size, 0, none⟩), .pointer (some ⟨w.heap.size + 1, 0, none⟩)]) ∧ w' = (w.alloc (.cells #[.slice a len cap] 22)).alloc (.cells #[.func (.func fe) #[] #[]] 62) := by
  refine callsIn_of_wp Tryz.func31 rfl h5 ?_ hro
  simp only [Tryz.ntmps31, List.size_toArray, List.length_cons, List.length_nil, Nat.reduceAdd, Nat.reduceSub, Array.replicate_succ, Array.replicate_zero, List.push_toArray, List.append_toArray, List.nil_append, List.cons_append]
  gi_wp2
  go_ret
  exact ⟨rfl, rfl⟩

set_option maxRecDepth 100000 in
theorem pieces_iter (F : Fence) (n : Nat) (h7 : F.fn 59) (fe : Nat) (hfe : F.fn fe) (hro : F.round = none) (hn : 1 ≤ n) (B1 B2 : Nat) (a : Option Addr) (len cap : Nat) (zs : List Int) (W0 : World) (hs : Sl .u8 W0 a len cap zs) (hlm : len ≤ 1000000) (hnil : a = none → cap = 0) (p : Int → Bool)
    (hen : ∀ args W, (callFunc fe args).run Tryz.prog W = .ok (.enter fe args) W) (hE : ∀ c W, CallsIn F (n - 1) Tryz.prog fe #[.int .u8 c] W fun e W' => e = .returned (.bool (p c)) ∧ W' = W)
    (w : World) (h1 : B1 < w.heap.size) (h2 : B2 < w.heap.size) (hb : Below W0.heap.size W0 w) (c1 : w.cell? ⟨B1, 0, none⟩ = some (.slice a len cap)) (c2 : w.cell? ⟨B2, 0, none⟩ = some (.func (.func fe) #[] #[])) :
    Iter F n Tryz.prog 59 #[.pointer (some ⟨B1, 0, none⟩), .pointer (some ⟨B2, 0, none⟩)] (fun x : Pc W0 => #[x.1.v]) (fun k => k < W0.heap.size ∨ k = B1 ∨ k = B2)
      (fun ys => ys.map (fun x : Pc W0 => x.1.zs) = partsA p [] zs) (fun pre => ∃ k, pre.map (fun x : Pc W0 => x.1.zs) = (partsA p [] zs).take k) (len + 1) w := fun l J Jx O W hW hO _ _ hY h0 =>
  pieces1_in F n h7 fe hfe hro hn l B1 B2 a len cap zs W0 hs hlm p hen hE J Jx hY _ (fun _ h => .inl h) (.inr (.inl rfl)) (.inr (.inr rfl)) O W
    (by have h9 := hW.size; have h8 := hb.size; rintro k (h | rfl | rfl) <;> omega) (fun k h => (hO k h).1) (hb.trans (hW.below hb.size (fun _ h => .inl h))) hnil (hW.cell c1 (.inr (.inl rfl))) (hW.cell c2 (.inr (.inr rfl))) h0

end Go.Proofs.YtjmabjeaodojeaaGreat

/- Used by the law. -/
namespace Go.Proofs.YtjmabjeaodojeaaGreat

theorem fieldsA_parts : ∀ (b cur : List Int), Line.fieldsA cur b = (partsA Line.isBlank cur b).filter (fun z => z ≠ [])
  | [], cur => by
    unfold Line.fieldsA partsA
    by_cases h : cur = [] <;> simp [h]
  | c :: cs, cur => by
    have ih1 := fieldsA_parts cs []
    have ih2 := fieldsA_parts cs (cur ++ [c])
    unfold Line.fieldsA partsA
    cases Line.isBlank c
    · simpa using ih2
    · by_cases h : cur = [] <;> simp [h, ih1]
theorem fields_parts (b : List Int) : (partsA Line.isBlank [] b).filter (fun z => z ≠ []) = Line.fields b := (fieldsA_parts b []).symm

def trim (l : List (List Int)) : List (List Int) := if l.getLast? = some [] then l.dropLast else l
theorem partsA_ne (p : Int → Bool) : ∀ (b cur : List Int), partsA p cur b ≠ []
  | [], cur => by simp [partsA]
  | c :: cs, cur => by
    unfold partsA
    split
    · simp
    · exact partsA_ne p cs _
theorem trim_cons (x : List Int) {l : List (List Int)} (h : l ≠ []) : trim (x :: l) = x :: trim l := by
  cases l with
  | nil => exact absurd rfl h
  | cons y ys =>
    unfold trim
    rw [List.getLast?_cons_cons]
    split <;> simp
theorem splitA_parts : ∀ (b cur : List Int), Line.splitA cur b = trim (partsA (fun c => c == 10) cur b)
  | [], cur => by
    unfold Line.splitA partsA trim
    by_cases h : cur = [] <;> simp [h]
  | c :: cs, cur => by
    have ih1 := splitA_parts cs []
    have ih2 := splitA_parts cs (cur ++ [c])
    unfold Line.splitA partsA
    by_cases h : c = 10
    · simp only [h, if_true, beq_self_eq_true]
      rw [trim_cons _ (partsA_ne _ _ _), ih1]
    · have hb : (c == 10) = false := by simpa using h
      simp only [h, if_false, hb, Bool.false_eq_true]
      exact ih2
theorem split_parts (b : List Int) : trim (partsA (fun c => c == 10) [] b) = Line.split b := (splitA_parts b []).symm

end Go.Proofs.YtjmabjeaodojeaaGreat

/- Used by the law. -/
namespace Go.Proofs.YtjmabjeaodojeaaGreat
open Go.RowKit Go.Shelf
attribute [local go_sem] Oper.semAt_some

abbrev Pn (W0 : World) := { x : Bd // (x.Good W0 ∧ x.n ≤ 1000000) ∧ x.zs ≠ [] }

theorem filter_take {α : Type} (p : α → Bool) (l : List α) (k : Nat) : ∃ m, (l.take k).filter p = (l.filter p).take m := by
  refine ⟨((l.take k).filter p).length, ?_⟩
  have h : l.filter p = (l.take k).filter p ++ (l.drop k).filter p := by rw [← List.filter_append, List.take_append_drop]
  rw [h, List.take_left]

set_option maxRecDepth 100000 in
set_option maxHeartbeats 1000000 in
theorem fields_in (F : Fence) (n : Nat) (h5 : F.fn 60) (hro : F.round = none) (a : Option Addr) (len cap : Nat) (w : World) :
    CallsIn F n Tryz.prog 60 #[.slice a len cap] w fun e w' => e = .returned (.func (.func 91) #[] #[.pointer (some ⟨w.heap.size, 0, none⟩)]) ∧ w' = w.alloc (.cells #[.slice a len cap] 22) := by
  refine callsIn_of_wp Tryz.func60 rfl h5 ?_ hro
  simp only [Tryz.ntmps60, List.size_toArray, List.length_cons, List.length_nil, Nat.reduceAdd, Nat.reduceSub, Array.replicate_succ, Array.replicate_zero, List.push_toArray, List.append_toArray, List.nil_append, List.cons_append]
  gi_wp2
  go_ret
  exact ⟨rfl, rfl⟩

def FieldsAt (W0 W : World) (l : Nat) (J : List (Pn W0) → (Nat → Prop) → World → Prop) (pre : List (Pc W0)) (U : Nat → Prop) (X : World) : Prop :=
  ∃ pre' : List (Pn W0), pre'.map (fun x : Pn W0 => x.1.zs) = (pre.map (fun x : Pc W0 => x.1.zs)).filter (fun z => z ≠ []) ∧ pre'.length ≤ pre.length ∧ J pre' U X ∧ X.cell? ⟨W.heap.size, 0, none⟩ = some (.func (.yield l) #[] #[]) ∧ ¬ U W.heap.size
def FieldsEnd (W0 : World) (Jx : List (Pn W0) → (Nat → Prop) → World → Prop) (c : Code) (pre : List (Pc W0)) (U : Nat → Prop) (X : World) : Prop :=
  c = .ret ∧ ∃ pre' : List (Pn W0), pre'.map (fun x : Pn W0 => x.1.zs) = (pre.map (fun x : Pc W0 => x.1.zs)).filter (fun z => z ≠ []) ∧ Jx pre' U X

set_option maxRecDepth 100000 in
set_option maxHeartbeats 4000000 in
theorem fields_iter (F : Fence) (n : Nat) (hfn : ∀ f, F.fn f) (hd : F.depth = none) (hro : F.round = none) (hn : 4 ≤ n) (B : Nat) (a : Option Addr) (len cap : Nat) (zs : List Int) (W0 : World) (hs : Sl .u8 W0 a len cap zs) (hlm : len ≤ 1000000) (hnil : a = none → cap = 0)
    (w : World) (hB : B < w.heap.size) (hb : Below W0.heap.size W0 w) (c1 : w.cell? ⟨B, 0, none⟩ = some (.slice a len cap)) :
    Iter F n Tryz.prog 91 #[.pointer (some ⟨B, 0, none⟩)] (fun x : Pn W0 => #[x.1.v]) (fun k => k < W0.heap.size ∨ k = B)
      (fun ys => ys.map (fun x : Pn W0 => x.1.zs) = Line.fields zs) (fun pre => ∃ k, pre.map (fun x : Pn W0 => x.1.zs) = (Line.fields zs).take k) (len + 1) w := by
  intro l J Jx O W hW hO hJ hJx hY h0
  have c2 := hW.cell c1 (.inr rfl)
  have hbW : Below W0.heap.size W0 W := hb.trans (hW.below hb.size (fun _ h => .inl h))
  have hBW : B < W.heap.size := Nat.lt_of_lt_of_le hB hW.size
  clear c1
  refine callsIn_of_wp_marks Tryz.func91 rfl (hfn _) ?_ hro
  simp only [Tryz.ntmps91, List.size_toArray, List.length_cons, List.length_nil, Nat.reduceAdd, Nat.reduceSub, Array.replicate_succ, Array.replicate_zero, List.push_toArray, List.append_toArray, List.nil_append, List.cons_append]
  have hf1 := hfn 31
  have HS := Lib.hid hs
  have HY := Lib.hid hY
  have HJ := Lib.hid hJ
  have HJX := Lib.hid hJx
  have HO := Lib.hid hO
  have H0 := Lib.hid h0
  have HN := Lib.hid hnil
  clear hs hY hJ hJx hO h0 hnil hW
  gi_wp2_with (first | (gi_at_call 31; refine (pieces_in F _ (hfn _) hro _ _ _ _ _).mono ?_; rintro e w' ⟨rfl, rfl⟩))
  have bO := Boxed.new W 63 (.func (.yield l) #[] #[])
  obtain ⟨w1, hw1⟩ : ∃ w1, w1 = W.alloc (.cells #[.func (.yield l) #[] #[]] 63) := ⟨_, rfl⟩
  have z1 : w1.heap.size = W.heap.size + 1 := by rw [hw1]; simp
  rw [← hw1] at bO ⊢
  have bA := Boxed.new w1 22 (.slice a len cap)
  obtain ⟨w2, hw2⟩ : ∃ w2, w2 = w1.alloc (.cells #[.slice a len cap] 22) := ⟨_, rfl⟩
  have z2 : w2.heap.size = W.heap.size + 1 + 1 := by rw [hw2]; simp [z1]
  rw [← hw2] at bA ⊢
  have bF := Boxed.new w2 62 (.func (.func 92) #[] #[])
  obtain ⟨w3, hw3⟩ : ∃ w3, w3 = w2.alloc (.cells #[.func (.func 92) #[] #[]] 62) := ⟨_, rfl⟩
  have z3 : w3.heap.size = W.heap.size + 1 + 1 + 1 := by rw [hw3]; simp [z2]
  rw [← hw3] at bF ⊢
  have bO3 : Boxed w3 W.heap.size 63 (.func (.yield l) #[] #[]) := by rw [hw3, hw2]; exact (bO.alloc _).alloc _
  have bA3 : Boxed w3 (W.heap.size + 1) 22 (.slice a len cap) := by rw [hw3, ← z1]; exact bA.alloc _
  have bF3 : Boxed w3 (W.heap.size + 1 + 1) 62 (.func (.func 92) #[] #[]) := by rw [← z2]; exact bF
  have kW : ∀ T, Keep T W w3 := fun T => by rw [hw3, hw2, hw1]; exact ((Keep.alloc T W _).trans (Keep.alloc T _ _)).trans (Keep.alloc T _ _)
  have hb3 : Below W0.heap.size W0 w3 := hbW.trans ((kW (fun _ => True)).below hbW.size (fun _ _ => trivial))
  have hz0 := hbW.size
  clear bO bA bF hw1 hw2 hw3
  refine wpIn_range_iter hro (fun h => by rw [hd] at h; cases h) (gf := 59) (lb := #[.pointer (some ⟨W.heap.size + 1, 0, none⟩), .pointer (some ⟨W.heap.size + 1 + 1, 0, none⟩)]) rfl (hfn _) (enters_of Tryz.func59 (by kernel_rfl) rfl)
    (pieces_iter F (n - 1) (hfn _) 92 (hfn _) hro (by omega) (W.heap.size + 1) (W.heap.size + 1 + 1) a len cap zs W0 HS.out hlm HN.out Line.isBlank isBlank_enters (fun c W => isBlank_in F _ (hfn _) hro c W) w3 (by omega) (by omega) hb3 bA3.cell bF3.cell)
    (Keep.refl _ _) (by rintro k (h | rfl | rfl) <;> omega) (fun _ => rfl)
    (FieldsAt W0 W l J) (FieldsEnd W0 Jx)
    (by
      rintro pre U X Y ⟨pre', h1, h2, h3, h4, h5⟩ hk
      exact ⟨pre', h1, h2, HJ.out _ _ _ _ h3 (hk.mono fun k _ h => h.elim (fun h => .inl (by omega)) .inr), hk.cell h4 (.inl (by omega)), h5⟩)
    (by
      rintro c pre U X Y ⟨hc, pre', h1, h3⟩ hk
      exact ⟨hc, pre', h1, HJX.out _ _ _ _ h3 (hk.mono fun k _ h => h.elim (fun h => .inl (by omega)) .inr)⟩)
    O (by
      intro k hk
      obtain ⟨h1, h2⟩ := HO.out k hk
      exact ⟨by rintro (h | rfl | rfl); exact h1 (.inl h); omega; omega, by omega⟩)
    ⟨[], rfl, Nat.le_refl _, HJ.out _ _ _ _ H0.out (kW _), bO3.cell, fun h => by have := (HO.out _ h).2; omega⟩
    (fun x => { tmps := #[.func (.yield l) #[] #[], .pointer (some ⟨B, 0, none⟩), .pointer (some ⟨W.heap.size, 0, none⟩), x.1.v, .slice a len cap, .func (.func 59) #[] #[.pointer (some ⟨W.heap.size + 1, 0, none⟩), .pointer (some ⟨W.heap.size + 1 + 1, 0, none⟩)], x.1.v, undef, undef, undef, undef, undef, undef, undef, undef, undef], defers := [] }) ?assign ?body ?done ?stop
  case assign =>
    intro l x W K hK
    gi_wp2
    exact hK
  case body =>
    rintro l2 pre x U X ⟨pre', h1, h2, hJ, hcy, hby⟩ hlt hsz
    have HJ0 := Lib.hid hJ
    clear hJ
    obtain ⟨⟨xa, xn, xc, xz⟩, hx⟩ := x
    have hxs : Sl .u8 W0 xa xn xc xz := hx.1
    dsimp only [Bd.v]
    by_cases h0 : xn = 0
    · have hxz : xz = [] := List.eq_nil_of_length_eq_zero (by rw [hxs.1, h0])
      have h0i : ¬ (0 : Int) < (xn : Int) := by omega
      have hmap : ∀ q : Pc W0, q.1.zs = xz → pre'.map (fun x : Pn W0 => x.1.zs) = ((pre ++ [q]).map (fun x : Pc W0 => x.1.zs)).filter (fun z => z ≠ []) := by
        intro q hq
        rw [List.map_append, List.filter_append, h1]
        simp [hq, hxz]
      have HM := Lib.hid hmap
      clear h1 hxs hmap hxz
      gi_wp2
      exact ⟨U, Keep.refl _ _, fun _ h => .inl h, pre', HM.out _ rfl, by simp; omega, HJ0.out, hcy, hby⟩
    · have h0i : (0 : Int) < (xn : Int) := by omega
      have hne : xz ≠ [] := by intro e; apply h0; rw [← hxs.1, e]; rfl
      obtain ⟨y, hy0⟩ : ∃ y : Pn W0, y.1 = ⟨xa, xn, xc, xz⟩ := ⟨⟨⟨xa, xn, xc, xz⟩, hx, hne⟩, rfl⟩
      obtain ⟨fn, tmps, assign, body, hy, hR⟩ := Yield.anyDepth hd (n - 1 - 1 - 1) (HY.out pre' y U X HJ0.out (by omega))
      have hyv : y.1.v = .slice xa xn xc := by rw [hy0]; rfl
      have hmap : ∀ q : Pc W0, q.1.zs = xz → (pre' ++ [y]).map (fun x : Pn W0 => x.1.zs) = ((pre ++ [q]).map (fun x : Pc W0 => x.1.zs)).filter (fun z => z ≠ []) := by
        intro q hq
        rw [List.map_append, List.map_append, List.filter_append, h1]
        simp [hq, hy0, hne]
      have HM := Lib.hid hmap
      have HR : RoundIn (F.inRound l2) (n - 1 - 1 - 1) Tryz.prog l fn tmps assign body X (Answers J Jx (pre' ++ [y]) U X) := hR
      rw [hyv] at hy
      clear hyv hy0 hmap hne hxs h1 hR
      gi_wp2
      refine HR.mono ?_
      rintro e X3 ⟨U3, hk3, ho3, (⟨rfl, hJ3⟩ | ⟨rfl, hJx3⟩)⟩
      · have hc3 := hk3.cell hcy hby
        have hu3 : ¬ U3 W.heap.size := fun h => (ho3 _ h).elim hby (by omega)
        have HJ3 := Lib.hid hJ3
        clear hJ3
        gi_wp2
        exact ⟨U3, hk3, ho3, pre' ++ [y], HM.out _ rfl, by simp; omega, HJ3.out, hc3, hu3⟩
      · have HJ3 := Lib.hid hJx3
        clear hJx3
        gi_wp2
        exact ⟨U3, hk3, ho3, rfl, pre' ++ [y], HM.out _ rfl, HJ3.out⟩
  case done =>
    rintro D xs U X hD hUD hys ⟨pre', h1, h2, hJ, hcy, hby⟩ hK
    refine ⟨by simp, .inl ⟨_, _, rfl, run_takeDeferred hK, ?_⟩⟩
    refine ⟨_, results_none rfl _ _ _, ⟨_, rfl⟩, U, .inl ⟨pre', ?_, HJ.out _ _ _ _ hJ (Keep.putObj _ _ _ (by rintro (h | h); omega; exact hUD h))⟩⟩
    rw [h1, hys, fields_parts]
  case stop =>
    rintro D c pre U X hD hUD ⟨k, hk⟩ ⟨rfl, pre', h1, hJ⟩ hK
    gi_wp2
    refine ⟨by simp, .inl ⟨_, _, rfl, run_takeDeferred hK, ?_⟩⟩
    obtain ⟨m, hm⟩ := filter_take (fun z : List Int => decide (z ≠ [])) (partsA Line.isBlank [] zs) k
    refine ⟨_, results_none rfl _ _ _, ⟨_, rfl⟩, U, .inr ⟨pre', ⟨m, ?_⟩, HJX.out _ _ _ _ hJ (Keep.putObj _ _ _ (by rintro (h | h); omega; exact hUD h))⟩⟩
    rw [h1, hk, hm, fields_parts]

end Go.Proofs.YtjmabjeaodojeaaGreat

/- Used by the law. -/
namespace Go.Proofs.YtjmabjeaodojeaaGreat
open Go.RowKit Go.Shelf
attribute [local go_sem] Oper.semAt_some

theorem wpListIn_copy_row {F : Fence} {n : Nat} {P : Program} {w : World} {ops : Array Oper} {rest : List Oper} {o : Oper} {a : Act} {Q : Exit → Act → World → Prop} (hgd : o.guard = none) (d s : Operand) (dT sT : TypeId)
    (ho : o.op = .call { callee := .builtin .copy, args := #[d, s], argTypes := #[dT, sT] }) (elem : TypeId) (hu : P.underlying dT = some (.slice elem)) (hsz : (P.info? elem).map (·.size) = some 1)
    (g m dCap sCap : Nat) (sp : Option Addr) (hd : a.eval d = .slice (some ⟨g, 0, none⟩) m dCap) (hs : a.eval s = .slice sp m sCap)
    (cur : List Value) (t : TypeId) (hg : w.heap[g]? = some (.cells cur.toArray t (0, 0))) (cs : List Value) (hn : cs.length = m) (hcur : cur.length = m)
    (hpos : 0 < m → ∃ ad, sp = some ad ∧ ∀ j v, cs[j]? = some v → w.cell? (ad.add j) = some v) (h1 : ∀ v ∈ cs, v.oneCell' = true) (B : Nat) (w0 : World) (hb : Below B w0 w) (hBg : B ≤ g)
    (h : ∀ w', w'.heap[g]? = some (.cells cs.toArray t (0, 0)) → Below B w0 w' → w.heap.size ≤ w'.heap.size → wpListIn F n P ops Q rest (a.put o.dst (goInt cs.length)) w') :
    wpListIn F n P ops Q (o :: rest) a w := by
  refine wpListIn_plain hgd fun K hK => ?_
  unfold Oper.wpIn
  refine ⟨by simp [Oper.about, ho, resolve, Target.leads, Sem.run_pure], ?_⟩
  rw [Oper.semAt_plain F _ _ (by rw [ho]; intro c hc'; cases hc')]
  by_cases h0 : m = 0
  · subst h0
    obtain rfl : cs = [] := List.eq_nil_of_length_eq_zero hn
    obtain rfl : cur = [] := List.eq_nil_of_length_eq_zero hcur
    have hrun := run_copy_none (P := P) w dT sT o.type elem (some ⟨g, 0, none⟩) sp 0 dCap 0 sCap hu hsz (by simp)
    simp [execOp, ho, resolve, invoke, builtin, hd, hs, hrun, Result.andThen]
    exact hK _ _ (h w hg hb (Nat.le_refl _))
  · obtain ⟨ad, rfl, hsrc⟩ := hpos (by omega)
    have hrun := run_copy_row (P := P) w dT sT o.type elem g 0 m dCap ad m sCap cur.toArray t cs hu hsz hg (by simpa using hn) hsrc (by simp; omega) h1
    simp [execOp, ho, resolve, invoke, builtin, hd, hs, hrun, Result.andThen]
    have h9 : cur.take 0 ++ cs ++ cur.drop (0 + cs.length) = cs := by simp [List.drop_eq_nil_of_le (show cur.length ≤ cs.length by omega)]
    refine hK _ _ (h _ ?_ (below_setRow hb hBg _) (by simp [World.setRow]))
    have h8 := setRow_heap w g cur.toArray cs.toArray t _ hg
    simpa [List.drop_eq_nil_of_le (show cur.length ≤ cs.length by omega)] using h8

def Bd.In (W : World) (x : Bd) : Prop :=
  ∃ b, x.a = some ⟨b, 0, none⟩ ∧ x.cap = x.n ∧ x.zs.length = x.n ∧ x.n ≤ maxLen ∧ (∀ z ∈ x.zs, (Lit.int .u8 z).wf = true) ∧ W.heap[b]? = some (.cells (x.zs.map (Value.int .u8)).toArray 5 (0, 0))
theorem Bd.In.good {W : World} {x : Bd} (h : x.In W) : x.Good W := by
  obtain ⟨b, h1, h2, h3, h4, h5, h6⟩ := h
  unfold Bd.Good
  rw [h1, h2]
  exact Sl.of_heap h6 h5 h3 h4
theorem Bd.In.kept {W W' : World} {x : Bd} {row : Option Nat} (h : x.In W) (hg : W.grownBy W' row) (hr : ∀ r, row = some r → ∀ cs fr, W.heap[r]? ≠ some (.cells cs 5 fr)) : x.In W' := by
  obtain ⟨b, h1, h2, h3, h4, h5, h6⟩ := h
  exact ⟨b, h1, h2, h3, h4, h5, (hg.block b (Array.getElem?_eq_some_iff.1 h6).1 (fun e => hr b e.symm _ _ h6)).trans h6⟩
theorem own_or (v : Value) : v.ownBlock = none ∨ v.ownBlock ≠ (none : Option Nat) := by
  cases v.ownBlock with
  | none => exact .inl rfl
  | some q => exact .inr (by simp)
theorem Boxed.below {W W' : World} {B : Nat} {t : TypeId} {v : Value} (h : Boxed W B t v) (hb : Below W.heap.size W W') : Boxed W' B t v := (hb.block B (Boxed.lt h)).trans h
theorem owned_not_u8 {W : World} {B : Nat} {v : Value} {k : Nat} {xs : List Value} (h : W.ownsRow B 22 1 v k xs) : ∀ r, v.ownBlock = some r → ∀ cs fr, W.heap[r]? ≠ some (.cells cs 5 fr) := by
  intro r e cs fr e2
  rcases h.2 with ⟨e1, _⟩ | ⟨g, cap, cur, e1, _, hgb, _⟩
  · rw [e1] at e; simp [Value.ownBlock] at e
  · rw [e1] at e
    obtain rfl : g = r := by simpa [Value.ownBlock] using e
    rw [hgb] at e2
    simp at e2

theorem Below.grownBy {W W' : World} (h : Below W.heap.size W W') : W.grownBy W' none := ⟨h.os, h.tape, h.output, h.size, fun k hk _ => h.block k hk⟩
set_option maxRecDepth 100000 in
theorem info_brow : (Tryz.prog.info? 22).map (fun i => (i.zero, i.size, i.bytes)) = some (some (.slice none 0 0), 1, 24) := by kernel_rfl

theorem Bd.In.keep {S : Nat → Prop} {W W' : World} {x : Bd} (h : x.In W) (hk : Keep S W W') (hs : ∀ b, x.a = some ⟨b, 0, none⟩ → S b) : x.In W' := by
  obtain ⟨b, h1, h2, h3, h4, h5, h6⟩ := h
  exact ⟨b, h1, h2, h3, h4, h5, hk.heap h6 (hs b h1)⟩
theorem ownsRow_keep {S : Nat → Prop} {W W' : World} {base : Nat} {e : TypeId} {size : Nat} {v : Value} {k : Nat} {xs : List Value} (h : W.ownsRow base e size v k xs) (hk : Keep S W W') (hs : ∀ r, v.ownBlock = some r → S r) : W'.ownsRow base e size v k xs := by
  refine ⟨h.1, ?_⟩
  rcases h.2 with hn | ⟨g, cap, cur, rfl, hb, hgg, rest⟩
  · exact .inl hn
  · exact .inr ⟨g, cap, cur, rfl, hb, hk.heap hgg (hs g rfl), rest⟩

def OwnAt {α : Type} (w : World) (bd : α → Bd) (pre : List α) (U : Nat → Prop) (X : World) : Prop :=
  ∃ (a' : Option Addr) (L c' : Nat) (outs : List Bd), Boxed X w.heap.size 41 (.slice a' L c') ∧ X.ownsRow (w.heap.size + 1) 22 1 (.slice a' L c') L (bvals outs) ∧ outs.length = L ∧ L = pre.length ∧
    (∀ x ∈ outs, x.In X) ∧ bnums outs = pre.map (fun x => (bd x).zs) ∧ (a' = none → c' = 0) ∧ U w.heap.size ∧ (∀ r, (Value.slice a' L c').ownBlock = some r → U r) ∧ (∀ x ∈ outs, ∀ b, x.a = some ⟨b, 0, none⟩ → U b) ∧ Below w.heap.size w X ∧ w.heap.size + 1 ≤ X.heap.size

theorem ownAt_stable {α : Type} (w : World) (bd : α → Bd) : Stable (w.heap.size + 1) (OwnAt w bd) := by
  rintro pre U X Y ⟨a', L, c', outs, h1, h2, h3, h4, h5, h6, h7, h8, h9, h10, h11, h12⟩ hk
  exact ⟨a', L, c', outs, hk.boxed h1 (.inr h8), ownsRow_keep h2 hk (fun r e => .inr (h9 r e)), h3, h4, fun x hx => (h5 x hx).keep hk (fun b e => .inr (h10 x hx b e)), h6, h7, h8, h9, h10,
    h11.trans (hk.below (by omega) (fun k hk => .inl (by omega))), Nat.le_trans h12 hk.size⟩

theorem ownAt_step {α : Type} {w X W2 W3 : World} {bd : α → Bd} {pre : List α} {x : α} {U : Nat → Prop} {a' : Option Addr} {L c' : Nat} {outs : List Bd}
    (h1 : Boxed X w.heap.size 41 (.slice a' L c')) (h2 : X.ownsRow (w.heap.size + 1) 22 1 (.slice a' L c') L (bvals outs)) (h3 : outs.length = L) (h4 : L = pre.length)
    (h5 : ∀ x ∈ outs, x.In X) (h6 : bnums outs = pre.map (fun x => (bd x).zs)) (h8 : U w.heap.size) (h9 : ∀ r, (Value.slice a' L c').ownBlock = some r → U r) (h10 : ∀ x ∈ outs, ∀ b, x.a = some ⟨b, 0, none⟩ → U b) (h11 : Below w.heap.size w X) (h12 : w.heap.size + 1 ≤ X.heap.size)
    (hb2 : Below X.heap.size X W2) (y : Bd) (hy : y.In W2) (hya : y.a = some ⟨X.heap.size, 0, none⟩) (hyz : y.zs = (bd x).zs) {tmp : Obj} {g c3 : Nat}
    (ho : W3.ownsRow (w.heap.size + 1) 22 1 (.slice (some ⟨g, 0, none⟩) (L + 1) c3) (L + 1) (bvals outs ++ [y.v])) (hg : (W2.alloc tmp).grownBy W3 (Value.slice a' L c').ownBlock)
    (hat : (Value.slice (some ⟨g, 0, none⟩) (L + 1) c3).ownBlock = (Value.slice a' L c').ownBlock ∨ (Value.slice (some ⟨g, 0, none⟩) (L + 1) c3).ownBlock = some (W2.alloc tmp).heap.size) :
    ∃ U', Keep (fun k => ¬ U k) X (W3.setCell ⟨w.heap.size, 0, none⟩ (.slice (some ⟨g, 0, none⟩) (L + 1) c3)) ∧ (∀ k, U' k → U k ∨ X.heap.size ≤ k) ∧ OwnAt w bd (pre ++ [x]) U' (W3.setCell ⟨w.heap.size, 0, none⟩ (.slice (some ⟨g, 0, none⟩) (L + 1) c3)) := by
  have hgb : W2.grownBy W3 (Value.slice a' L c').ownBlock := (World.grownBy_alloc W2 tmp _).trans hg
  have hX : X.grownBy W3 (Value.slice a' L c').ownBlock := ⟨hgb.os.trans hb2.os, hgb.tape.trans hb2.tape, hgb.output.trans hb2.output, Nat.le_trans hb2.size hgb.size, fun k hk hne => (hgb.block k (Nat.lt_of_lt_of_le hk hb2.size) hne).trans (hb2.block k hk)⟩
  have hlt : ∀ r, (Value.slice a' L c').ownBlock = some r → w.heap.size + 1 ≤ r := fun r e => (h2.lt r e).1
  have hbox3 : Boxed W3 w.heap.size 41 (.slice a' L c') := h1.kept hX (fun e => by have := hlt _ e.symm; omega)
  have hset := grownBy_setCell' W3 w.heap.size (.slice (some ⟨g, 0, none⟩) (L + 1) c3)
  have hboxu : ∀ r, some w.heap.size = some r → ∀ cs fr, W3.heap[r]? ≠ some (.cells cs 5 fr) := by
    intro r e cs fr e2
    cases e
    rw [show W3.heap[w.heap.size]? = _ from hbox3] at e2
    simp at e2
  have hrow2 : W2.ownsRow (w.heap.size + 1) 22 1 (.slice a' L c') L (bvals outs) := h2.kept (Below.grownBy hb2) (by cases hq : (Value.slice a' L c').ownBlock with | none => exact .inl rfl | some q => exact .inr (by simp))
  have hgl := (ho.lt g rfl).1
  refine ⟨fun k => U k ∨ X.heap.size ≤ k, ?_, fun k h => h, some ⟨g, 0, none⟩, L + 1, c3, outs ++ [y], hbox3.set _, ?_, by simp [h3], by simp [h4], fun z hz => ?_, ?_, (fun h => by cases h), .inl h8, ?_, ?_, ?_, ?_⟩
  · exact (Keep.of_grownBy hX fun r e h => h (h9 r e)).trans (Keep.setCell _ _ _ (fun h => h h8))
  · rw [bvals_app]
    exact ho.kept hset (.inr fun e => by have h : g = w.heap.size := (by simpa [Value.ownBlock] using e); omega)
  · rcases List.mem_append.1 hz with hz | hz
    · exact ((h5 z hz).kept hX (owned_not_u8 h2)).kept hset hboxu
    · rw [List.mem_singleton.1 hz]
      exact (hy.kept hgb (owned_not_u8 hrow2)).kept hset hboxu
  · rw [bnums_app, h6]
    simp [bnums, hyz]
  · intro r e
    rcases hat with hat | hat
    · rw [hat] at e; exact .inl (h9 r e)
    · rw [hat] at e; cases e; right; have := hb2.size; simp; omega
  · intro z hz b e
    rcases List.mem_append.1 hz with hz | hz
    · exact .inl (h10 z hz b e)
    · rw [List.mem_singleton.1 hz, hya] at e; cases e; exact .inr (Nat.le_refl _)
  · exact (h11.grown hX (by omega) (fun k e => by have := hlt k e; omega)).setCell (p := ⟨w.heap.size, 0, none⟩) (Nat.le_refl _) _
  · exact Nat.le_trans h12 (Nat.le_trans hX.size hset.size)


def RowsOwn (w w' : World) (e : Ending) (l : List (List Int)) : Prop :=
  ∃ a' m c' ys, e = .returned (.slice a' m c') ∧ Bs w' a' m c' ys ∧ bnums ys = l ∧ (a' = none → c' = 0) ∧ Below w.heap.size w w' ∧ ∀ y ∈ ys, ∃ b, y.a = some ⟨b, 0, none⟩
set_option maxRecDepth 100000 in
theorem RowsOwn.is {w w' : World} {e : Ending} {l : List (List Int)} (h : RowsOwn w w' e l) : RowsIs w w' e l := by
  obtain ⟨a', m, c', ys, h1, h2, h3, h4, h5, _⟩ := h
  exact ⟨a', m, c', ys, h1, h2, h3, h4, h5⟩
set_option maxRecDepth 100000 in
set_option maxHeartbeats 4000000 in
theorem own_in {α : Type} (F : Fence) (n : Nat) (hfn : ∀ f, F.fn f) (hd : F.depth = none) (hro : F.round = none) (W0 w : World) (hb : Below W0.heap.size W0 w) (bd : α → Bd) (hbd : ∀ x, (bd x).Good W0 ∧ (bd x).n ≤ 1000000)
    (gf : Nat) (lb : Array Value) (eg : ∀ args W, (callFunc gf args).run Tryz.prog W = .ok (.enter gf args) W) (Rd : Nat → Prop) (hRd : ∀ k, Rd k → k < w.heap.size) (l : List (List Int)) (Sp : List α → Prop) (N : Nat) (hN : N ≤ 2000000)
    (hseq : Iter F (n - 1) Tryz.prog gf lb (fun x => #[(bd x).v]) Rd (fun ys => ys.map (fun x => (bd x).zs) = l) Sp N w) :
    CallsIn F n Tryz.prog 30 #[.func (.func gf) #[] lb] w fun e w' => RowsOwn w w' e l := by
  obtain ⟨i0, hi, hz0, hz1, hz2⟩ := info_parts info_brow
  refine callsIn_of_wp_marks Tryz.func30 rfl (hfn _) ?_ hro
  simp only [Tryz.ntmps30, List.size_toArray, List.length_cons, List.length_nil, Nat.reduceAdd, Nat.reduceSub, Array.replicate_succ, Array.replicate_zero, List.push_toArray, List.append_toArray, List.nil_append, List.cons_append]
  gi_wp2
  have bO := Boxed.new w 41 (.slice none 0 0)
  obtain ⟨w1, hw1⟩ : ∃ w1, w1 = w.alloc (.cells #[.slice none 0 0] 41) := ⟨_, rfl⟩
  have z1 : w1.heap.size = w.heap.size + 1 := by rw [hw1]; simp
  have k1 : ∀ T, Keep T w w1 := fun T => by rw [hw1]; exact Keep.alloc T w _
  rw [← hw1] at bO ⊢
  refine wpIn_range_iter hro (fun h => by rw [hd] at h; cases h) (gf := gf) (lb := lb) rfl (hfn _) eg hseq (k1 _) hRd (fun _ => rfl)
    (OwnAt w bd) (fun _ _ _ _ => False) (by rw [z1]; exact ownAt_stable w bd) (fun _ _ _ _ _ h _ => h)
    (fun k => k = w.heap.size) (fun k hk => ⟨fun h => by have := hRd k h; omega, by omega⟩)
    ⟨none, 0, 0, [], bO, World.ownsRow_nil _ _ _ _, rfl, rfl, by simp, rfl, fun _ => rfl, rfl, by simp [Value.ownBlock], by simp, (k1 (fun _ => True)).below (Nat.le_refl _) (fun _ _ => trivial), by omega⟩
    (fun x => { tmps := #[.func (.func gf) #[] lb, undef, .slice none 0 0, .pointer (some ⟨w.heap.size, 0, none⟩), (bd x).v, undef, .func (.func gf) #[] lb, (bd x).v, undef, undef, undef, undef, undef, undef, undef, undef, undef, undef, undef], defers := [] }) ?assign ?body ?done ?stop
  case assign =>
    intro l x W K hK
    gi_wp2
    exact hK
  case body =>
    rintro l2 pre x U X ⟨a', L, c', outs, h1, h2, h3, h4, h5, h6, h7, h8, h9, h10, h11, h12⟩ hlt hsz
    obtain ⟨hx1, hx2⟩ := hbd x
    obtain ⟨⟨xa, xn, xc, xz⟩, hxe⟩ : ∃ q, q = bd x := ⟨_, rfl⟩
    rw [← hxe] at hx1 hx2
    have hxs : Sl .u8 W0 xa xn xc xz := hx1
    have hxm : xn ≤ 1000000 := hx2
    have hxX : Sl .u8 X xa xn xc xz := hxs.below (hb.trans (h11.mono hb.size)) (Nat.le_refl _)
    have hmk := run_make_row' (P := Tryz.prog) 22 5 (.int .u8 0) 1 Tryz.underlying22 info_u8 rfl .i64 .i64 xn (by omega) (by omega)
    obtain ⟨C, hC⟩ : ∃ C, C = xz.map (Value.int .u8) := ⟨_, rfl⟩
    have hCl : C.length = xn := by rw [hC, List.length_map, hxs.1]
    have hpos : 0 < xn → ∃ ad, xa = some ad ∧ ∀ j v, C[j]? = some v → ∀ o, (X.alloc o).cell? (ad.add j) = some v := by
      intro h0
      obtain ⟨b, off, rfl, hb5, hc5⟩ := hxX.at (by omega)
      refine ⟨_, rfl, fun j v hv o => ?_⟩
      have hj : j < xz.length := by
        rcases Nat.lt_or_ge j xz.length with h | h
        · exact h
        · rw [hC] at hv; simp [List.getElem?_eq_none h] at hv
      have := hc5 j (by rw [← hxs.1]; exact hj)
      rw [show (⟨b, off, none⟩ : Addr).add j = ⟨b, off + j, none⟩ from by simp [Addr.add], World.cell?_alloc_old _ _ _ (by show b ≠ X.heap.size; omega), this]
      rw [hC] at hv
      simp [hj] at hv
      rw [← hv]; simp [hj]
    have hone : ∀ v ∈ C, v.oneCell' = true := by rw [hC]; exact ints_oneCell .u8 xz
    have hg : ∀ c : Array Value, (X.alloc (.cells c 5)).heap[X.heap.size]? = some (.cells c.toList.toArray 5 (0, 0)) := fun c => by unfold World.alloc; simp
    have hstep : ∀ W2, W2.heap[X.heap.size]? = some (.cells C.toArray 5 (0, 0)) → Below X.heap.size X W2 → (⟨some ⟨X.heap.size, 0, none⟩, xn, xn, xz⟩ : Bd).In W2 := fun W2 hW _ =>
      ⟨X.heap.size, rfl, rfl, hxs.1, by unfold maxLen; show xn ≤ _; omega, hxs.2.2.2.1, by rw [hW, hC]⟩
    have HXE := Lib.hid hxe
    have HCL := Lib.hid hCl
    have HP := Lib.hid hpos
    have H1 := Lib.hid h1
    have H2 := Lib.hid h2
    have H4 := Lib.hid h4
    have H5 := Lib.hid h5
    have H6 := Lib.hid h6
    have H9 := Lib.hid h9
    have H10 := Lib.hid h10
    have HON := Lib.hid hone
    have HG := Lib.hid hg
    have HIN := Lib.hid hstep
    have hL : L ≤ 2000000 := by omega
    have hax : (bd x).v = .slice xa xn xc := by rw [← hxe]; rfl
    rw [hax]
    clear hax hxe hx1 hx2 hC hCl hpos h1 h2 h4 h5 h6 h9 h10 hone hg hstep hxX hxs
    gi_wp2_with (first
      | (refine wpListIn_copy_row (o := ⟨some 13, _, _, _, _, _⟩) rfl (.tmp 11) (.tmp 12) 22 22 (by rfl) 5 Tryz.underlying22 size_u8 X.heap.size xn _ _ _ (by rfl) (by rfl) (madeCells #[.int .u8 0] xn).toList 5 (HG.out _) C HCL.out (by simp [madeCells]) (fun h0 => by obtain ⟨ad, e, h'⟩ := HP.out h0; exact ⟨ad, e, fun j v hv => h' j v hv _⟩) HON.out X.heap.size X ((Below.refl _ X).alloc (Nat.le_refl _) _) (Nat.le_refl _) ?_; intro W2 hW2 hb2 _; have HW2 := Lib.hid hW2; clear hW2; have hx2 := Boxed.below H1.out hb2; have hc2 := hx2.cell; have HO2 := Lib.hid (H2.out.kept (Below.grownBy hb2) (own_or _)))
      | (gi_at_builtin; refine wpListIn_append_own_at _ rfl (.tmp 14) (.tmp 16) 41 (by rfl) (w.heap.size + 1) 22 i0 (.slice none 0 0) 1 24 Tryz.underlying41 hi hz0 hz1 hz2 rfl (by decide) _ _ _ (by rfl) (HO2.out.alloc _) ⟨W2.heap.size, 0, none⟩ 1 1 [.slice (some ⟨X.heap.size, 0, none⟩) xn xn] (by rfl) rfl (cell_one_new _ _ _) (by simp [Value.oneCell']) (by unfold maxLen; omega) (by omega) (by have := hb2.size; simp; omega) ?_; intro v' W3 hown' hgrow _ hat; obtain ⟨g', cap', rfl⟩ := ownsRow_succ hown'; have hx3 : Boxed W3 w.heap.size 41 (.slice a' L c') := Boxed.kept (Boxed.alloc hx2 _) hgrow (fun e => by have := (HO2.out.lt _ e.symm).1; omega); have hc3 := hx3.cell; have hf3 := hx3.frozen))
    exact ownAt_step H1.out H2.out h3 H4.out H5.out H6.out h8 H9.out H10.out h11 h12 hb2 ⟨some ⟨X.heap.size, 0, none⟩, xn, xn, xz⟩ (HIN.out _ HW2.out hb2) rfl (by rw [← HXE.out]) hown' hgrow hat
  case done =>
    rintro D xs U X hD hUD hys ⟨a', L, c', outs, h1, h2, h3, h4, h5, h6, h7, h8, h9, h10, h11, h12⟩ hK
    have hc := h1.cell
    clear h4
    gi_wp2
    refine ⟨by simp, .inl ⟨_, _, rfl, run_takeDeferred hK, ?_⟩⟩
    have kD : Keep U X (X.putObj D (.deferred none)) := Keep.putObj _ _ _ hUD
    have h2' := ownsRow_keep h2 kD h9
    have hbD : Below w.heap.size w (X.putObj D (.deferred none)) := h11.trans ((Keep.putObj (S := fun k => k < w.heap.size) X D _ (by omega)).below h11.size (fun _ h => h))
    refine ⟨_, results_tmp rfl _ _ _, a', L, c', outs, rfl, Bs.of_owns h2' (fun x hx => ((h5 x hx).keep kD (h10 x hx)).good) h3, by rw [h6, hys], h7, hbD, fun y hy => by obtain ⟨b, h, _⟩ := h5 y hy; exact ⟨b, h⟩⟩
  case stop =>
    rintro D c pre U X _ _ _ h _
    exact h.elim

end Go.Proofs.YtjmabjeaodojeaaGreat

/- Used by the law. -/
namespace Go.Proofs.YtjmabjeaodojeaaGreat
open Go.RowKit Go.Shelf
attribute [local go_sem] Oper.semAt_some

set_option maxRecDepth 100000 in
set_option maxHeartbeats 2000000 in
theorem fields_any (a : Option Addr) (n cap : Nat) (zs : List Int) (w : World) (hs : Sl .u8 w a n cap zs) (hnil : a = none → cap = 0) (hn : n ≤ 1000000) :
    Calls Tryz.prog 34 #[.slice a n cap] w fun e w' => RowsIs w w' e (Line.fields zs) := by
  refine (callsIn_wide (n := 20)).1 ?_
  obtain ⟨F, hF⟩ : ∃ F, F = Fence.wide := ⟨_, rfl⟩
  have hfn : ∀ f, F.fn f := by subst hF; exact fun _ => trivial
  have hro : F.round = none := by subst hF; rfl
  have hd : F.depth = none := by subst hF; rfl
  rw [← hF]
  clear hF
  refine callsIn_of_wp Tryz.func34 rfl (hfn _) ?_ hro
  simp only [Tryz.ntmps34, List.size_toArray, List.length_cons, List.length_nil, Nat.reduceAdd, Nat.reduceSub, Array.replicate_succ, Array.replicate_zero, List.push_toArray, List.append_toArray, List.nil_append, List.cons_append]
  have hf1 := hfn 60
  have hf2 := hfn 30
  have hb1 : Below w.heap.size w (w.alloc (.cells #[.slice a n cap] 22)) := (Below.refl _ w).alloc (Nat.le_refl _) _
  have bA := Boxed.new w 22 (.slice a n cap)
  have hown : CallsIn F (20 - 1) Tryz.prog 30 #[.func (.func 91) #[] #[.pointer (some ⟨w.heap.size, 0, none⟩)]] (w.alloc (.cells #[.slice a n cap] 22)) fun e w' => RowsOwn (w.alloc (.cells #[.slice a n cap] 22)) w' e (Line.fields zs) :=
    own_in F (20 - 1) hfn hd hro w _ hb1 (fun x : Pn w => x.1) (fun x => x.2.1) 91 #[.pointer (some ⟨w.heap.size, 0, none⟩)] (enters_of Tryz.func91 (by kernel_rfl) rfl)
      (fun k => k < w.heap.size ∨ k = w.heap.size) (by rintro k (h | rfl) <;> simp <;> omega) (Line.fields zs) _ (n + 1) (by omega)
      (fields_iter F (20 - 1 - 1) hfn hd hro (by omega) w.heap.size a n cap zs w hs hn hnil _ (by simp) hb1 bA.cell)
  have HB := Lib.hid hb1
  clear hb1 bA hs
  gi_wp2_with (first
    | (gi_at_call 60; refine (fields_in F _ (hfn _) hro _ _ _ _).mono ?_; rintro e w' ⟨rfl, rfl⟩)
    | (gi_at_call 30; refine hown.mono ?_; rintro e w' ⟨a', m, c', ys, rfl, h2, h3, h4, h5, _⟩))
  go_ret
  exact ⟨a', m, c', ys, rfl, h2, h3, h4, HB.out.trans (h5.mono HB.out.size)⟩

theorem trim_last {l : List (List Int)} {k : Nat} (h : l.length = k + 1) : trim l = if l.getD k [] = [] then l.take k else l := by
  unfold trim
  have h1 : l.getLast? = some (l.getD k []) := by
    rw [List.getLast?_eq_getElem?, List.getD_eq_getElem?_getD, h, Nat.add_sub_cancel]
    rw [List.getElem?_eq_getElem (by omega)]
    rfl
  rw [h1, List.dropLast_eq_take, h, Nat.add_sub_cancel]
  simp

theorem last_of {ys : List Bd} {l : List (List Int)} {m : Nat} (h1 : ys.length = m) (h2 : bnums ys = l) (h3 : l ≠ []) : ∃ k, m = k + 1 := by
  refine ⟨m - 1, ?_⟩
  have h := congrArg List.length h2
  rw [bnums_length, h1] at h
  have : 0 < l.length := List.length_pos_iff.2 h3
  omega

set_option maxRecDepth 100000 in
set_option maxHeartbeats 2000000 in
theorem split_own (a : Option Addr) (n cap : Nat) (zs : List Int) (w : World) (hs : Sl .u8 w a n cap zs) (hnil : a = none → cap = 0) (hn : n ≤ 1000000) :
    Calls Tryz.prog 13 #[.slice a n cap] w fun e w' => RowsOwn w w' e (Line.split zs) := by
  refine (callsIn_wide (n := 20)).1 ?_
  obtain ⟨F, hF⟩ : ∃ F, F = Fence.wide := ⟨_, rfl⟩
  have hfn : ∀ f, F.fn f := by subst hF; exact fun _ => trivial
  have hro : F.round = none := by subst hF; rfl
  have hd : F.depth = none := by subst hF; rfl
  rw [← hF]
  clear hF
  refine callsIn_of_wp Tryz.func13 rfl (hfn _) ?_ hro
  simp only [Tryz.ntmps13, List.size_toArray, List.length_cons, List.length_nil, Nat.reduceAdd, Nat.reduceSub, Array.replicate_succ, Array.replicate_zero, List.push_toArray, List.append_toArray, List.nil_append, List.cons_append]
  have hf1 := hfn 31
  have hf2 := hfn 30
  obtain ⟨w2, hw2⟩ : ∃ w2, w2 = (w.alloc (.cells #[.slice a n cap] 22)).alloc (.cells #[.func (.func 32) #[] #[]] 62) := ⟨_, rfl⟩
  have hb1 : Below w.heap.size w w2 := by rw [hw2]; exact ((Below.refl _ w).alloc (Nat.le_refl _) _).alloc (by simp) _
  have z2 : w2.heap.size = w.heap.size + 1 + 1 := by rw [hw2]; simp
  have bA : Boxed w2 w.heap.size 22 (.slice a n cap) := by rw [hw2]; exact (Boxed.new w 22 (.slice a n cap)).alloc _
  have bF : Boxed w2 (w.heap.size + 1) 62 (.func (.func 32) #[] #[]) := by
    rw [hw2]; have := Boxed.new (w.alloc (.cells #[.slice a n cap] 22)) 62 (.func (.func 32) #[] #[]); rwa [World.size_alloc] at this
  have hown : CallsIn F (20 - 1) Tryz.prog 30 #[.func (.func 59) #[] #[.pointer (some ⟨w.heap.size, 0, none⟩), .pointer (some ⟨w.heap.size + 1, 0, none⟩)]] w2 fun e w' => RowsOwn w2 w' e (partsA (fun c => c == 10) [] zs) :=
    own_in F (20 - 1) hfn hd hro w _ hb1 (fun x : Pc w => x.1) (fun x => x.2) 59 _ (enters_of Tryz.func59 (by kernel_rfl) rfl)
      (fun k => k < w.heap.size ∨ k = w.heap.size ∨ k = w.heap.size + 1) (by rintro k (h | rfl | rfl) <;> omega) (partsA (fun c => c == 10) [] zs) _ (n + 1) (by omega)
      (pieces_iter F (20 - 1 - 1) (hfn _) 32 (hfn _) hro (by omega) w.heap.size (w.heap.size + 1) a n cap zs w hs hn hnil (fun c => c == 10) isEnd_enters (fun c W => isEnd_in F _ (hfn _) hro c W) w2 (by omega) (by omega) hb1 bA.cell bF.cell)
  have HB := Lib.hid hb1
  have HW := Lib.hid hw2
  have hne := partsA_ne (fun c => c == 10) zs []
  have hsp := split_parts zs
  obtain ⟨l, hl⟩ : ∃ l, l = partsA (fun c => c == 10) [] zs := ⟨_, rfl⟩
  rw [← hl] at hown hne hsp
  have HSP := Lib.hid hsp
  clear hb1 bA bF hs hw2 hl hsp
  gi_wp2_with (gi_at_call 31; refine (pieces_in F _ (hfn _) hro _ _ _ _ _).mono ?_; rintro e w' ⟨rfl, rfl⟩; rw [← HW.out])
  refine hown.mono ?_
  rintro e w' ⟨a', m, c', ys, rfl, h2, h3, h4, h5, h6⟩
  obtain ⟨k, hmk⟩ : ∃ k, m = k + 1 := last_of h2.1 h3 hne
  have hcm := h2.2.2.1
  have hmc := h2.2.1
  unfold maxLen at hcm
  have hwk : wrap64 ((m : Int) - 1) = (k : Int) := by rw [show (m : Int) - 1 = (k : Int) from by omega]; unfold wrap64; omega
  obtain ⟨b, off, a1, n1, c1, z1, rfl, _, hgd, hc1, hs1, hz1⟩ := h2.one k (by omega)
  have hkm : (k : Int) < (m : Int) := by omega
  have hk0 : (0 : Int) ≤ (k : Int) := by omega
  have hkc : (k : Int) ≤ (c' : Int) := by omega
  have htr := trim_last (l := l) (k := k) (by rw [← h3, bnums_length, h2.1, hmk])
  rw [← h3, hz1, h3] at htr
  have HMK := Lib.hid hmk
  have H2 := Lib.hid h2
  have H3 := Lib.hid h3
  by_cases hz : z1 = []
  · have hn1 : ((n1 : Int) == 0) = true := by have := hs1.1; rw [hz] at this; simp at this; simp [← this]
    rw [if_pos hz] at htr
    have HTR := Lib.hid htr
    clear hmk h2 h3 h4 hz1 hs1 hgd hne hmc hz htr
    gi_wp2
    go_ret
    refine ⟨_, k, c', ys.take k, rfl, H2.out.first k (by have := HMK.out; omega), ?_, (fun h => by cases h), HB.out.trans (h5.mono HB.out.size), fun y hy => h6 y (List.mem_of_mem_take hy)⟩
    rw [← HSP.out, HTR.out, ← H3.out]
    simp [bnums]
  · have hn1 : ((n1 : Int) == 0) = false := by
      simp only [beq_eq_false_iff_ne]
      intro h
      apply hz
      exact List.eq_nil_of_length_eq_zero (by rw [hs1.1]; omega)
    rw [if_neg hz] at htr
    have HTR := Lib.hid htr
    clear hmk h2 h3 h4 hz1 hs1 hgd hne hmc hz htr
    gi_wp2
    go_ret
    exact ⟨_, m, c', ys, rfl, H2.out, by rw [← HSP.out, HTR.out, ← H3.out], (fun h => by cases h), HB.out.trans (h5.mono HB.out.size), h6⟩

theorem bare_none {zs : List Int} (h : ([] : List (List Int)) = Line.fields zs) : Line.bare zs = true := by
  unfold Line.bare; rw [← h]
theorem bare_some {zs z : List Int} {k : Nat} (h : [z] = (Line.fields zs).take k) : Line.bare zs = (z.getD 0 0 == 35) := by
  unfold Line.bare
  cases hf : Line.fields zs with
  | nil => rw [hf] at h; simp at h
  | cons y ys =>
    rw [hf] at h
    cases k with
    | zero => simp at h
    | succ k => rw [List.take_succ_cons] at h; simp only [List.cons.injEq] at h; rw [h.1]

def BareAt (w : World) (pre : List (Pn w)) (U : Nat → Prop) (X : World) : Prop :=
  pre = [] ∧ Boxed X w.heap.size 4 (.bool false) ∧ U w.heap.size ∧ Below w.heap.size w X ∧ w.heap.size + 1 ≤ X.heap.size
def BareEnd (w : World) (c : Code) (pre : List (Pn w)) (U : Nat → Prop) (X : World) : Prop :=
  c = .ret ∧ ∃ x, pre = [x] ∧ Boxed X w.heap.size 4 (.bool (x.1.zs.getD 0 0 == 35)) ∧ U w.heap.size ∧ Below w.heap.size w X ∧ w.heap.size + 1 ≤ X.heap.size

set_option maxRecDepth 100000 in
set_option maxHeartbeats 4000000 in
theorem bare_any (a : Option Addr) (n cap : Nat) (zs : List Int) (w : World) (hs : Sl .u8 w a n cap zs) (hnil : a = none → cap = 0) (hn : n ≤ 1000000) :
    Calls Tryz.prog 33 #[.slice a n cap] w fun e w' => e = .returned (.bool (Line.bare zs)) ∧ Below w.heap.size w w' := by
  refine (callsIn_wide (n := 20)).1 ?_
  obtain ⟨F, hF⟩ : ∃ F, F = Fence.wide := ⟨_, rfl⟩
  have hfn : ∀ f, F.fn f := by subst hF; exact fun _ => trivial
  have hro : F.round = none := by subst hF; rfl
  have hd : F.depth = none := by subst hF; rfl
  rw [← hF]
  clear hF
  refine callsIn_of_wp_marks Tryz.func33 rfl (hfn _) ?_ hro
  simp only [Tryz.ntmps33, List.size_toArray, List.length_cons, List.length_nil, Nat.reduceAdd, Nat.reduceSub, Array.replicate_succ, Array.replicate_zero, List.push_toArray, List.append_toArray, List.nil_append, List.cons_append]
  have hf1 := hfn 60
  gi_wp2_with (gi_at_call 60; refine (fields_in F _ (hfn _) hro _ _ _ _).mono ?_; rintro e w' ⟨rfl, rfl⟩)
  have bO := Boxed.new w 4 (.bool false)
  obtain ⟨w1, hw1⟩ : ∃ w1, w1 = w.alloc (.cells #[.bool false] 4) := ⟨_, rfl⟩
  have z1 : w1.heap.size = w.heap.size + 1 := by rw [hw1]; simp
  rw [← hw1] at bO ⊢
  have bA := Boxed.new w1 22 (.slice a n cap)
  obtain ⟨w2, hw2⟩ : ∃ w2, w2 = w1.alloc (.cells #[.slice a n cap] 22) := ⟨_, rfl⟩
  have z2 : w2.heap.size = w.heap.size + 1 + 1 := by rw [hw2]; simp [z1]
  rw [← hw2] at bA ⊢
  have bO2 : Boxed w2 w.heap.size 4 (.bool false) := by rw [hw2]; exact bO.alloc _
  have bA2 : Boxed w2 (w.heap.size + 1) 22 (.slice a n cap) := by rw [← z1]; exact bA
  have hB0 : Below w.heap.size w w2 := by
    rw [hw2, hw1]
    exact ((Below.refl _ w).alloc (Nat.le_refl _) _).alloc (by simp) _
  clear bO bA hw1 hw2
  refine wpIn_range_iter hro (fun h => by rw [hd] at h; cases h) (gf := 91) (lb := #[.pointer (some ⟨w.heap.size + 1, 0, none⟩)]) rfl (hfn _) (enters_of Tryz.func91 (by kernel_rfl) rfl)
    (fields_iter F (20 - 1) hfn hd hro (by omega) (w.heap.size + 1) a n cap zs w hs hn hnil w2 (by omega) hB0 bA2.cell)
    (Keep.refl _ _) (by rintro k (h | rfl) <;> omega) (fun _ => rfl)
    (BareAt w) (BareEnd w)
    (by
      rintro pre U X Y ⟨h1, h2, h3, h4, h5⟩ hk
      exact ⟨h1, hk.boxed h2 (.inr h3), h3, h4.trans (hk.below (by omega) (fun k hk => .inl (by omega))), Nat.le_trans h5 hk.size⟩)
    (by
      rintro c pre U X Y ⟨hc, x, h1, h2, h3, h4, h5⟩ hk
      exact ⟨hc, x, h1, hk.boxed h2 (.inr h3), h3, h4.trans (hk.below (by omega) (fun k hk => .inl (by omega))), Nat.le_trans h5 hk.size⟩)
    (fun k => k = w.heap.size) (fun k hk => ⟨by rintro (h | h) <;> omega, by omega⟩)
    ⟨rfl, bO2, rfl, hB0, by omega⟩
    (fun x => { tmps := #[.slice a n cap, undef, .pointer (some ⟨w.heap.size, 0, none⟩), x.1.v, .slice a n cap, .func (.func 91) #[] #[.pointer (some ⟨w.heap.size + 1, 0, none⟩)], x.1.v, undef, undef, undef, undef], defers := [] }) ?assign ?body ?done ?stop
  case assign =>
    intro l x W K hK
    gi_wp2
    exact hK
  case body =>
    rintro l pre x U X ⟨rfl, hbx, hU, hB, hz⟩ hlt hsz
    obtain ⟨⟨xa, xn, xc, xz⟩, hx⟩ := x
    have hxs : Sl .u8 w xa xn xc xz := hx.1.1
    have hne : xz ≠ [] := hx.2
    have hn0 : 0 < xn := by rw [← hxs.1]; exact List.length_pos_iff.2 hne
    have h0i : (0 : Int) < (xn : Int) := by omega
    obtain ⟨b2, o2, rfl, _, hc2⟩ := (hxs.below hB (Nat.le_refl _)).at (by omega)
    have hx2 : X.cell? ⟨b2, o2, none⟩ = some (.int .u8 (xz.getD 0 0)) := hc2 0 (by omega)
    have hcr := hbx.cell
    have hfr := hbx.frozen
    dsimp only [Bd.v]
    clear hc2 hxs hne hn0
    gi_wp2
    exact ⟨U, Keep.setCell _ _ _ (fun h => h hU), fun _ h => .inl h, rfl, _, rfl, hbx.set _, hU, hB.setCell (p := ⟨w.heap.size, 0, none⟩) (Nat.le_refl _) _, Nat.le_trans hz (grownBy_setCell' X w.heap.size _).size⟩
  case done =>
    rintro D ys U X hD hUD hys ⟨rfl, hbx, hU, hB, hz⟩ hK
    have hcr := hbx.cell
    have hfr := hbx.frozen
    gi_wp2
    have hK' := (KeepsOthers.setCell X ⟨w.heap.size, 0, none⟩ (.bool true)).same D _ hK rfl
    refine ⟨by simp, .inl ⟨_, _, rfl, run_takeDeferred hK', ?_⟩⟩
    have hc5 := cell_kept (World.cell?_setCell_same' X ⟨w.heap.size, 0, none⟩ (.bool true) (by rw [hcr]; rfl)) (grownBy_putObj' _ D (.deferred none)) (fun r e => by cases e; exact ⟨_, hK', rfl⟩)
    have hz : Line.bare zs = true := bare_none hys
    refine ⟨.bool true, ?_, by rw [hz], (hB.setCell (p := ⟨w.heap.size, 0, none⟩) (Nat.le_refl _) _).trans (belowK_b (w := w) (Nat.le_refl _) _ D _ _ (by omega) hK' rfl rfl)⟩
    simp [results, Tryz.f33, go_sem, hc5]
  case stop =>
    rintro D c pre U X hD hUD ⟨k, hk⟩ ⟨rfl, x, rfl, hbx, hU, hB, hz⟩ hK
    have hcr := hbx.cell
    gi_wp2
    refine ⟨by simp, .inl ⟨_, _, rfl, run_takeDeferred hK, ?_⟩⟩
    have hc5 := cell_kept hcr (grownBy_putObj' _ D (.deferred none)) (fun r e => by cases e; exact ⟨_, hK, rfl⟩)
    have hz : Line.bare zs = (x.1.zs.getD 0 0 == 35) := bare_some hk
    refine ⟨.bool (x.1.zs.getD 0 0 == 35), ?_, by rw [hz], hB.trans (belowK_b (w := w) (Nat.le_refl _) X D _ _ (by omega) hK rfl rfl)⟩
    simp [results, Tryz.f33, go_sem, hc5]

end Go.Proofs.YtjmabjeaodojeaaGreat
