/- Used by the law. -/
import Derived.Test.YtimjdlbhbiklgaaPackA
import Derived.Test.YtimjdlbhbiklgaaWalkRefA
import Derived.Test.YtimjdlbhbiklgaaWalkApp
import Derived.Test.YtimjdlbhbiklgaaOrderInts
import Derived.Test.YtimjdlbhbiklgaaPackO
import Derived.BigQuiet
import Derived.Deep.RegionHeld3
namespace Go.Proofs.Ytimjdlbhbiklgaa
open Go.RowKit Tri Wlk

set_option maxRecDepth 100000 in
theorem stepR_none {w : World} {ops : Array Oper} {o : Oper} {act : Act} {K : Act → World → Prop} {Q : Exit → Act → World → Prop} {E : Prop} (hw : Region.wanted o (yielded ops act.tmps) = true)
    (ho : o.op = .buildSlice 23 0 #[]) (h : ∀ w', w'.ownsRow w.heap.size 3 1 (.slice (some ⟨w.heap.size, 0, none⟩) 0 0) 0 (i64s []) → w'.heap.size = w.heap.size + 1 → Below w.heap.size w w' → K (act.put o.dst (.slice (some ⟨w.heap.size, 0, none⟩) 0 0)) w') :
    if Region.wanted o (yielded ops act.tmps) = true then o.wp Try.prog act w K Q else E := by
  rw [if_pos hw]
  unfold Oper.wp
  simp only [execOp, ho, List.map_toArray, List.map_nil]
  go_simp
  exact h _ (owns_none_ints w) (size_alloc _ _) ((Below.refl _ w).alloc (Nat.le_refl _) _)
set_option maxRecDepth 100000 in
theorem Sl.layR {w : World} {t : TypeId} (s : Int) (hs : (Lit.int .i64 s).wf = true) : Sl .i64 (w.alloc (.cells #[.int .i64 s] t)) (some ⟨w.heap.size, 0, none⟩) 1 1 [s] := by
  refine ⟨rfl, Nat.le_refl _, by simp [maxLen], by simpa using hs, .inr ⟨w.heap.size, 0, rfl, fun i hi => ?_⟩⟩
  obtain rfl : i = 0 := by omega
  rw [World.cell?_alloc_at _ _ _ _ (by rfl)]
  simp
set_option maxRecDepth 100000 in
theorem stepR_one {w : World} {ops : Array Oper} {o : Oper} {act : Act} {K : Act → World → Prop} {Q : Exit → Act → World → Prop} {E : Prop} (hw : Region.wanted o (yielded ops act.tmps) = true) (x : Operand) (s : Int)
    (ho : o.op = .buildSlice 23 1 #[(0, x)]) (hx : act.eval x = .int .i64 s) (hs : (Lit.int .i64 s).wf = true) (h : ∀ w', Sl .i64 w' (some ⟨w.heap.size, 0, none⟩) 1 1 [s] → w'.heap.size = w.heap.size + 1 → Below w.heap.size w w' → K (act.put o.dst (.slice (some ⟨w.heap.size, 0, none⟩) 1 1)) w') :
    if Region.wanted o (yielded ops act.tmps) = true then o.wp Try.prog act w K Q else E := by
  rw [if_pos hw]
  unfold Oper.wp
  simp only [execOp, ho, List.map_toArray, List.map_cons, List.map_nil, hx]
  go_simp
  exact h _ (Sl.layR s hs) (size_alloc _ _) ((Below.refl _ w).alloc (Nat.le_refl _) _)
set_option maxRecDepth 100000 in
theorem stepR_append {w : World} {ops : Array Oper} {o : Oper} {act : Act} {K : Act → World → Prop} {Q : Exit → Act → World → Prop} {E : Prop} (hw : Region.wanted o (yielded ops act.tmps) = true) (s x : Operand)
    (ho : o.op = .call { callee := .builtin .append, args := #[s, x], argTypes := #[23, 23] }) (base : Nat) (v : Value) (n : Nat) (xs : List Int) (hs : act.eval s = v)
    (hown : w.ownsRow base 3 1 v n (i64s xs)) (a : Option Addr) (m c : Nat) (zs : List Int) (hx : act.eval x = .slice a m c) (hz : Sl .i64 w a m c zs) (ha : a = none → c = 0)
    (N : Nat) (hN : n + m = N) (h63 : N * 8 ≤ 140737488355328) (hbase : base ≤ w.heap.size)
    (h : ∀ a' c' w', w'.ownsRow base 3 1 (.slice a' N c') N (i64s (xs ++ zs)) → Below base w w' → w.grownBy w' v.ownBlock → (a' = none → c' = 0) → K (act.put o.dst (.slice a' N c')) w') :
    if Region.wanted o (yielded ops act.tmps) = true then o.wp Try.prog act w K Q else E := by
  subst hN
  rw [if_pos hw]
  obtain ⟨i0, hi, hz0, hz1, hz2⟩ := info_parts info_int
  cases a with
  | none =>
    obtain rfl := ha rfl
    obtain rfl : m = 0 := by have := hz.2.1; omega
    obtain rfl : zs = [] := List.eq_nil_of_length_eq_zero hz.1
    obtain ⟨a', c', rfl, hnil⟩ := own_form hown
    have hrun := run_append_owned_none (P := Try.prog) (w := w) base 23 o.type 3 i0 1 Try.underlying23 hi _ n (i64s xs) hown
    unfold Oper.wp
    simp [execOp, ho, resolve, invoke, builtin, hs, hx, hrun, Result.andThen]
    exact h a' c' w (by simpa using hown) (Below.refl _ _) (World.grownBy.refl w _) hnil
  | some y =>
    have hnews : ∀ j u, (i64s zs)[j]? = some u → w.cell? (y.add j) = some u := by
      intro j u hj
      have hjl : j < zs.length := by
        rcases Nat.lt_or_ge j zs.length with hlt | hge
        · exact hlt
        · simp [i64s, List.getElem?_eq_none hge] at hj
      obtain ⟨b, off, hy, _, hc⟩ := hz.at (by have := hz.1; omega)
      simp only [Option.some.injEq] at hy
      subst hy
      have := hc j (by have := hz.1; omega)
      rw [show (⟨b, off, none⟩ : Addr).add j = ⟨b, off + j, none⟩ from by simp [Addr.add], this]
      simp [i64s, hjl] at hj
      rw [← hj]; simp [hjl]
    refine wp_append_own w s x 23 ho base 3 i0 (.int .i64 0) 1 8 Try.underlying23 hi hz0 hz1 hz2 rfl (by decide) v n (i64s xs) hs hown y m c (i64s zs) hx (by simp [i64s, hz.1]) hnews (ints_oneCell .i64 zs) (by unfold maxLen; omega) h63 hbase ?_
    intro v' w' hown' hgrow _
    obtain ⟨a', c', rfl, hnil⟩ := own_form hown'
    exact h a' c' w' (by rw [show i64s (xs ++ zs) = i64s xs ++ i64s zs from by simp [i64s]]; exact hown') ((Below.refl _ _).grown hgrow hbase (fun k hk => (hown.lt k hk).1)) hgrow hnil
theorem Sl.grownR {w w' : World} {g : Nat} {z : Int} {b : Nat} (h : Sl .i64 w (some ⟨g, 0, none⟩) 1 1 [z]) (hg : w.grownBy w' (some b)) (hne : b ≠ g) : Sl .i64 w' (some ⟨g, 0, none⟩) 1 1 [z] := by
  obtain ⟨h1, h2, h3, h4, h5⟩ := h
  refine ⟨h1, h2, h3, h4, ?_⟩
  rcases h5 with h5 | ⟨b', off', ha, hc⟩
  · exact .inl h5
  · simp only [Option.some.injEq, Addr.mk.injEq, and_true] at ha
    obtain ⟨rfl, rfl⟩ := ha
    exact .inr ⟨_, _, rfl, fun i hi => hg.cell (hc i hi) (fun e => hne (by simpa using e.symm))⟩
theorem Sl.cutR {w : World} {b : Option Addr} {m cap : Nat} {zs : List Int} (h : Sl .i64 w b m cap zs) {k : Nat} (hk : k ≤ m) : Sl .i64 w b k cap (zs.take k) := by
  obtain ⟨h1, h2, h3, h4, h5⟩ := h
  refine ⟨by simp; omega, by omega, h3, fun z hz => h4 z (List.mem_of_mem_take hz), ?_⟩
  rcases h5 with h5 | ⟨b', off', ha, hc⟩
  · exact .inl (by omega)
  · refine .inr ⟨b', off', ha, fun i hi => ?_⟩
    rw [hc i (by omega)]
    simp [hi]
theorem Ml.lowerR {B B' : Nat} {w : World} {a : Option Addr} {L c : Nat} {outs : List Wd} (h : Ml B w a L c outs) (hB : B' ≤ B) : Ml B' w a L c outs :=
  ⟨own_lower h.row hB, fun x hx => own_lower (h.own x hx) hB, h.wfs, h.lens, h.len, h.nil⟩
theorem Ml.app {B : Nat} {w w' : World} {a a' : Option Addr} {L c c' m : Nat} {outs : List Wd} (h : Ml B w a L c outs) (ys : List Wd) (hy : ∀ y ∈ ys, w.ownsRow B 3 1 y.v y.n (i64s y.zs)) (hz : ∀ y ∈ ys, ∀ z ∈ y.zs, (Lit.int .i64 z).wf = true) (hl : ∀ y ∈ ys, y.zs.length = y.n) (hm : ys.length = m)
    (hrow : w'.ownsRow B 23 1 (.slice a' (L + m) c') (L + m) (vals (outs ++ ys))) (hg : w.grownBy w' (Value.slice a L c).ownBlock) (hn : a' = none → c' = 0) : Ml B w' a' (L + m) c' (outs ++ ys) := by
  have hk := KeepI.row hg h.row ne_wi
  refine ⟨hrow, fun y h' => ?_, fun y h' => ?_, fun y h' => ?_, by simp [h.len, hm], hn⟩
  · rcases List.mem_append.1 h' with h' | h'
    · exact hk.owns (h.own y h')
    · exact hk.owns (hy y h')
  · rcases List.mem_append.1 h' with h' | h'
    · exact h.wfs y h'
    · exact hz y h'
  · rcases List.mem_append.1 h' with h' | h'
    · exact h.lens y h'
    · exact hl y h'
def CntAt (w : World) (g n : Nat) (l : List St) : Prop := g < w.heap.size ∧ ∀ j, j < n → w.cell? ⟨g, j, none⟩ = some (.int .i64 (manyV l j))
theorem CntAt.below {w w' : World} {g n : Nat} {l : List St} (h : CntAt w g n l) (hb : Below w.heap.size w w') : CntAt w' g n l :=
  ⟨Nat.lt_of_lt_of_le h.1 hb.size, fun j hj => by rw [hb.cell (p := ⟨g, j, none⟩) h.1]; exact h.2 j hj⟩
theorem CntAt.drewN {w : World} {g n : Nat} {l : List St} (h : CntAt w g n l) (m : Nat) : CntAt (w.drewN m) g n l := h
def TellB (w : World) (L : List (List Int)) (e : Ending) (w' : World) : Prop := ∃ a' k c' outs, e = .returned (.slice a' k c') ∧ Ml w.heap.size w' a' k c' outs ∧ nums outs = L ∧ Below w.heap.size w w'

set_option maxRecDepth 100000 in
set_option maxHeartbeats 12800000 in
theorem behind_is {l : List St} (hc : check l = true) (a : Option Addr) (n cap : Nat) (xs : List Sw) (hl : sts xs = l) (cg cc : Nat) (fa : Option Addr) (fn fc : Nat) (fz : List Int) (hfn : fa = none → fc = 0) :
    ∀ (d at_ : Nat), at_ < n → n - at_ ≤ d → ∀ (w : World) (ba : Option Addr) (bn bc : Nat) (bz : List Int) (N : Nat), Ss w a n cap xs → CntAt w cg n l → n ≤ cc → Sl .i64 w ba bn bc bz → (ba = none → bc = 0) → bn ≤ at_ → Sl .i64 w fa fn fc fz → N ≤ 300 →
      Calls Try.prog 32 #[.slice a n cap, .slice (some ⟨cg, 0, none⟩) n cc, .int .i64 (at_ : Int), .slice ba bn bc, .slice fa fn fc, .int .i64 (N : Int)] w fun e w' => TellB w ((bhd l at_ bz fz).take N) e w' := by
  intro d
  induction d with
  | zero => intro at_ h1 h2; omega
  | succ d ih =>
    intro at_ hat hd w ba bn bc bz N hx hcn hcc hb hbn hbl hf hN
    have HX := Lib.hid hx
    have HCN := Lib.hid hcn
    have HBG0 := Lib.hid hb
    have HBN := Lib.hid hbn
    have HFG0 := Lib.hid hf
    have HL := Lib.hid hl
    have HIH := Lib.hid ih
    have HFN := Lib.hid hfn
    have HLN : Hid (l.length = n) := by show _ = _; rw [← hl, sts_length]; exact hx.1
    have hsz := check_size hc
    have hn1 : n ≤ 6001 := by rw [← HLN.out]; exact hsz.2
    have hat0 : (0 : Int) ≤ (at_ : Int) := by omega
    have hati : (at_ : Int) < (n : Int) := by omega
    have hbc := hb.2.1
    have hbm := hb.2.2.1
    unfold maxLen at hbm
    have hfc := hf.2.1
    have hfm := hf.2.2.1
    unfold maxLen at hfm
    obtain ⟨c0, hc0⟩ : ∃ c, manyV l at_ = c := ⟨_, rfl⟩
    have hcell0 : w.cell? ⟨cg, at_, none⟩ = some (.int .i64 c0) := by rw [← hc0]; exact hcn.2 at_ hat
    have HC0 := Lib.hid hc0
    obtain ⟨b1, o1, f, sa, sn, sc, arcs, rfl, hbl1, hcf, hcs, har, hyi⟩ := hx.one at_ hat
    have HBL := Lib.hid hbl1
    have HCS := Lib.hid hcs
    have HARS := Lib.hid har
    have hsn : sn ≤ 9223372036854775807 := by
      have h1 := har.2.1
      have h2 := har.2.2.1
      unfold maxLen at h2
      omega
    have HST : Hid (l.getD at_ St.no = ⟨f, arcs⟩) := by
      show _ = _
      rw [← HL.out, sts_at, hyi]; rfl
    have HUP : Hid (∀ k, k < sn → ∀ {s t : Int}, arcs.getD k (0, 0) = (s, t) → (at_ : Int) < t ∧ t < (n : Int)) := by
      intro k hk s t h
      have hkl : k < arcs.length := by rw [HARS.out.1]; exact hk
      have hm : (s, t) ∈ (l.getD at_ St.no).arcs := by
        rw [HST.out, ← h]
        show arcs.getD k (0, 0) ∈ arcs
        rw [List.getD_eq_getElem?_getD, List.getElem?_eq_getElem hkl, Option.getD_some]; exact List.getElem_mem _
      have h2 := ((check_arcs hc (by rw [HLN.out]; exact hat)).1 _ hm).2
      rw [HLN.out] at h2; exact h2
    obtain ⟨g, hg⟩ : ∃ g, lessL bz fz = g := ⟨_, rfl⟩
    have HG := Lib.hid hg
    clear hx hcn hb hbn hf hc0 hcs har hyi hg hsz ih hbl1 hl
    by_cases hz : c0 = 0
    · subst hz
      have HW : Hid (wds l at_ = []) := by
        have h := HC0.out
        unfold manyV mny at h
        exact List.eq_nil_of_length_eq_zero (by omega)
      go_enter Try.func32, Try.ntmps32
      go_wp2
      go_ret
      exact ⟨none, 0, 0, [], rfl, Ml.start _ _, by rw [bhd_zero _ _ HW.out]; simp [nums], Below.refl _ _⟩
    have hcne : (c0 == 0) = false := by simpa using hz
    by_cases hN0 : N = 0
    · subst hN0
      clear hz
      go_enter Try.func32, Try.ntmps32
      go_wp2
      go_ret
      exact ⟨none, 0, 0, [], rfl, Ml.start _ _, by simp [nums], Below.refl _ _⟩
    have hNne : ((N : Int) == 0) = false := by simp; omega
    have hNn : ¬ (N : Int) = 0 := by omega
    clear hz
    cases f
    · have HM0 := Lib.hid (Ml.start w.heap.size w)
      have HS0 : Hid (nums [] = (bhdA l at_ 0 bz fz).take N) := by show _ = _; rw [bhdA_zero l at_ bz fz (by rw [HST.out]) HG.out]; simp [nums]
      have HB0 : Hid (Below w.heap.size w w) := Below.refl _ _
      go_enter Try.func32, Try.ntmps32
      go_wp2
      go_loopw [13, 14] (fun ov ix wr => ∃ (k L c : Nat) (oa : Option Addr) (outs : List Wd), k ≤ sn ∧ ov = .slice oa L c ∧ ix = .int .i64 (k : Int) ∧ Hid (Ml w.heap.size wr oa L c outs) ∧ Hid (nums outs = (bhdA l at_ k bz fz).take N) ∧ Hid (Below w.heap.size w wr)) (fun _ ix _ => sn - (intOf ix).toNat)
      case atStart => exact ⟨0, _, _, _, _, Nat.zero_le _, rfl, rfl, HM0.out, HS0.out, HB0.out⟩
      case round =>
        obtain ⟨k, L, c, oa, outs, hk, rfl, rfl, HM, HS, HB⟩ := hrel
        have hc2 : wr.cell? ⟨b1, o1 + at_ * 2 + 1, none⟩ = some (.slice sa sn sc) := by
          rw [HB.out.cell (p := ⟨b1, o1 + at_ * 2 + 1, none⟩) HBL.out]; exact HCS.out
        by_cases hkl : k < sn
        · obtain ⟨b2, o2, s, t, rfl, hb2, hy0, hy1, hws, hwt, hst⟩ := HARS.out.one k hkl
          have hy0' : wr.cell? ⟨b2, o2 + k * 2, none⟩ = some (.int .i64 s) := by
            rw [HB.out.cell (p := ⟨b2, o2 + k * 2, none⟩) hb2]; exact hy0
          have hy1' : wr.cell? ⟨b2, o2 + k * 2 + 1, none⟩ = some (.int .i64 t) := by
            rw [HB.out.cell (p := ⟨b2, o2 + k * 2 + 1, none⟩) hb2]; exact hy1
          obtain ⟨htl, htn⟩ := HUP.out k hkl hst
          obtain ⟨tn, rfl⟩ : ∃ m : Nat, t = (m : Int) := ⟨t.toNat, by omega⟩
          have htl3 : tn < n := by omega
          have HWS := Lib.hid hws
          have HST2 := Lib.hid hst
          have hkli : (k : Int) < (sn : Int) := by omega
          have hk0 : (0 : Int) ≤ (k : Int) := by omega
          obtain ⟨wy, hwy⟩ : ∃ W, W = wr.alloc (.cells #[.int .i64 s, .int .i64 (tn : Int)] 59) := ⟨_, rfl⟩
          have hBY : Below wr.heap.size wr wy := by rw [hwy]; exact (Below.refl _ wr).alloc (Nat.le_refl _) _
          have hBW : Below w.heap.size w wy := HB.out.trans (hBY.mono HB.out.size)
          have hcy : wy.cell? ⟨wr.heap.size, 0, none⟩ = some (.int .i64 s) ∧ wy.cell? ⟨wr.heap.size, 1, none⟩ = some (.int .i64 (tn : Int)) := by
            rw [hwy]; exact ⟨by rw [cell_of_obj (heap_alloc_new wr _)]; rfl, by rw [cell_of_obj (heap_alloc_new wr _)]; rfl⟩
          have hsy : wr.heap.size < wy.heap.size := by rw [hwy, size_alloc]; omega
          have HKS : Hid (∀ W, Below wy.heap.size wy W → W.cell? ⟨wr.heap.size, 0, none⟩ = some (.int .i64 s) ∧ W.cell? ⟨wr.heap.size, 1, none⟩ = some (.int .i64 (tn : Int))) := Lib.hid fun W hW => ⟨by rw [hW.cell (p := ⟨wr.heap.size, 0, none⟩) hsy]; exact hcy.1, by rw [hW.cell (p := ⟨wr.heap.size, 1, none⟩) hsy]; exact hcy.2⟩
          have HBD : Hid (Below wy.heap.size wy wy.drew) := below_drawn (Below.refl _ _) ⟨1, rfl⟩
          have HBG : Hid (Sl .i64 wy ba bn bc bz) := HBG0.out.below hBW (Nat.le_refl _)
          have HFG : Hid (Sl .i64 wy fa fn fc fz) := HFG0.out.below hBW (Nat.le_refl _)
          have HXY : Hid (Ss wy _ n cap xs) := HX.out.below hBW (Nat.le_refl _)
          have HCY : Hid (CntAt wy cg n l) := HCN.out.below hBW
          have HMY : Hid (Ml w.heap.size wy oa L c outs) := HM.out.below hBY
          have HBW := Lib.hid hBW
          have HWY := Lib.hid hwy
          clear hb2 hy0 hy1 hws hwt hst hcy hBW hBY hwy
          go_wp2
          rw [← HWY.out]
          clear HWY
          refine wp_region_held_drew (S := (fun W => W.cell? ⟨wr.heap.size, 0, none⟩ = some (.int .i64 s) ∧ W.cell? ⟨wr.heap.size, 1, none⟩ = some (.int .i64 (tn : Int)))) (by kernel_rfl) (by first | (first | exact HKS.out _ HBD.out | exact hS0 | exact hS2 | exact hS5 | exact hS6) | ((try dsimp only); first | exact HKS.out _ HBD.out | exact hS0 | exact hS2 | exact hS5 | exact hS6)) (fun hHeld => ?_)
          refine wpAnyH_take (i := 1) (v := ?vrb1) rfl (by kernel_rfl) (by kernel_rfl) (by kernel_rfl) (fun _ _ _ h => h) (Or.inl ⟨by rfl, ?hrb1⟩) (by assumption) ?rrb1
          case hrb1 => intro w hSw; (try dsimp only at hSw); go_simp; try with_reducible rfl
          simp only [Act.put, List.getElem_toArray, List.getElem_cons_succ, List.getElem_cons_zero, List.setIfInBounds_toArray, List.set_cons_succ, List.set_cons_zero]
          refine wpAnyH_take (i := 3) (v := ?vrb4) rfl (by kernel_rfl) (by kernel_rfl) (by kernel_rfl) (fun _ _ _ h => h) (Or.inl ⟨by rfl, ?hrb4⟩) (by assumption) ?rrb4
          case hrb4 => intro w hSw; (try dsimp only at hSw); go_simp; try with_reducible rfl
          simp only [Act.put, List.getElem_toArray, List.getElem_cons_succ, List.getElem_cons_zero, List.setIfInBounds_toArray, List.set_cons_succ, List.set_cons_zero]
          refine wpAnyH_take (i := 4) (v := ?vrb7) rfl (by kernel_rfl) (by kernel_rfl) (by kernel_rfl) (fun _ _ _ h => h) (Or.inl ⟨by rfl, ?hrb7⟩) (by assumption) ?rrb7
          case hrb7 => intro w hSw; (try dsimp only at hSw); go_simp; try with_reducible rfl
          simp only [Act.put, List.getElem_toArray, List.getElem_cons_succ, List.getElem_cons_zero, List.setIfInBounds_toArray, List.set_cons_succ, List.set_cons_zero]
          refine wpAnyH_ready (rs := [0, 5]) (by kernel_rfl) (by simp) ?_
          refine AllReadyH.cons rfl (fun K hK => ?_) (AllReadyH.cons rfl (fun K hK => ?_) AllReadyH.nil)
          · refine stepR_none (by rfl) (by rfl) ?_
            intro w0 hown0' hz0 hbx0
            have hown0 := own_lower hown0' HBD.out.size
            have hbT0 : Below wy.heap.size wy w0 := HBD.out.trans (hbx0.mono HBD.out.size)
            have hS0 := HKS.out _ hbT0
            refine hK.out _ _ (by first | (first | exact HKS.out _ HBD.out | exact hS0 | exact hS2 | exact hS5 | exact hS6) | ((try dsimp only); first | exact HKS.out _ HBD.out | exact hS0 | exact hS2 | exact hS5 | exact hS6)) (fun hHeld => ?_)
            clear hK K
            try simp only [Act.put, List.getElem_toArray, List.getElem_cons_succ, List.getElem_cons_zero, List.setIfInBounds_toArray, List.set_cons_succ, List.set_cons_zero]
            refine wpAnyH_ready (rs := [2, 5]) (by kernel_rfl) (by simp) ?_
            refine AllReadyH.cons rfl (fun K hK => ?_) (AllReadyH.cons rfl (fun K hK => ?_) AllReadyH.nil)
            · refine stepR_append (by rfl) (.tmp 62) (.tmp 63) (by rfl) wy.heap.size _ 0 [] (by rfl) hown0 ba bn bc bz (by rfl) (HBG.out.below hbT0 (Nat.le_refl _)) HBN.out bn (by omega) (by omega) hbT0.size ?_
              intro a2 c2 w2 hown2 hbx2 hgr2 _
              have hbT2 : Below wy.heap.size wy w2 := hbT0.trans hbx2
              have hS2 := HKS.out _ hbT2
              refine hK.out _ _ (by first | (first | exact HKS.out _ HBD.out | exact hS0 | exact hS2 | exact hS5 | exact hS6) | ((try dsimp only); first | exact HKS.out _ HBD.out | exact hS0 | exact hS2 | exact hS5 | exact hS6)) (fun hHeld => ?_)
              clear hK K
              try simp only [Act.put, List.getElem_toArray, List.getElem_cons_succ, List.getElem_cons_zero, List.setIfInBounds_toArray, List.set_cons_succ, List.set_cons_zero]
              refine wpAnyH_ready (rs := [5]) (by kernel_rfl) (by simp) ?_
              refine AllReadyH.cons rfl (fun K hK => ?_) AllReadyH.nil
              refine stepR_one (by rfl) (.tmp 66) s (by rfl) (by rfl) HWS.out ?_
              intro w5 hsl5 hz5 hbx5
              have hbT5 : Below wy.heap.size wy w5 := hbT2.trans (hbx5.mono hbT2.size)
              replace hown2 := ownsRow_below hown2 hbx5 (Nat.le_refl _)
              have hS5 := HKS.out _ hbT5
              refine hK.out _ _ (by first | (first | exact HKS.out _ HBD.out | exact hS0 | exact hS2 | exact hS5 | exact hS6) | ((try dsimp only); first | exact HKS.out _ HBD.out | exact hS0 | exact hS2 | exact hS5 | exact hS6)) (fun hHeld => ?_)
              clear hK K
              try simp only [Act.put, List.getElem_toArray, List.getElem_cons_succ, List.getElem_cons_zero, List.setIfInBounds_toArray, List.set_cons_succ, List.set_cons_zero]
              refine wpAnyH_ready (rs := [6]) (by kernel_rfl) (by simp) ?_
              refine AllReadyH.cons rfl (fun K hK => ?_) AllReadyH.nil
              refine stepR_append (by rfl) (.tmp 64) (.tmp 67) (by rfl) wy.heap.size _ bn ([] ++ bz) (by rfl) hown2 _ 1 1 [s] (by rfl) hsl5 (fun h => by cases h) (bn + 1) rfl (by omega) hbT5.size ?_
              intro a6 c6 w6 hown6 hbx6 _ hn6
              have hbT6 : Below wy.heap.size wy w6 := hbT5.trans hbx6
              have hS6 := HKS.out _ hbT6
              refine hK.out _ _ (by first | (first | exact HKS.out _ HBD.out | exact hS0 | exact hS2 | exact hS5 | exact hS6) | ((try dsimp only); first | exact HKS.out _ HBD.out | exact hS0 | exact hS2 | exact hS5 | exact hS6)) (fun hHeld => ?_)
              clear hK K
              try simp only [Act.put, List.getElem_toArray, List.getElem_cons_succ, List.getElem_cons_zero, List.setIfInBounds_toArray, List.set_cons_succ, List.set_cons_zero]
              refine wpAnyH_take (i := 7) (v := ?vrb48) rfl (by kernel_rfl) (by kernel_rfl) (by kernel_rfl) (fun _ _ _ h => h) (Or.inl ⟨by rfl, ?hrb48⟩) (by assumption) ?rrb48
              case hrb48 => intro w hSw; (try dsimp only at hSw); go_simp; try with_reducible rfl
              simp only [Act.put, List.getElem_toArray, List.getElem_cons_succ, List.getElem_cons_zero, List.setIfInBounds_toArray, List.set_cons_succ, List.set_cons_zero]
              refine wpAnyH_done (by kernel_rfl) ?_ _
              have HG6 : Hid (Sl .i64 w6 a6 (bn + 1) c6 ([] ++ bz ++ [s])) := Sl.of_owns hown6 (by
                intro x hx
                rcases List.mem_append.1 hx with hx | hx
                · exact HBG.out.2.2.2.1 x (by simpa using hx)
                · rw [List.mem_singleton.1 hx]; exact HWS.out) (by simp [HBG.out.1])
              have HN6 := Lib.hid hn6
              have HB6 := Lib.hid hbT6
              have hc6 := HG6.out.2.1
              have hc6' := HG6.out.2.2.1
              unfold maxLen at hc6'
              clear hown6 hn6
              obtain ⟨m, hm⟩ : ∃ m, min (bn + 1) fn = m := ⟨_, rfl⟩
              have hmI : min (((bn + 1 : Nat)) : Int) (fn : Int) = (m : Int) := by omega
              have hmI' : min ((bn : Int) + 1) (fn : Int) = (m : Int) := by omega
              have hm1 : m ≤ bn + 1 := by omega
              have hm2 : m ≤ fn := by omega
              have hm0 : (0 : Int) ≤ (m : Int) := by omega
              have hm3 : (m : Int) ≤ (c6 : Int) := by omega
              have hm4 : (m : Int) ≤ (fc : Int) := by omega
              have hmc : m ≤ c6 := by omega
              have hmf : m ≤ fc := by omega
              obtain ⟨g2, hg2⟩ : ∃ g2, lessL (([] ++ bz ++ [s]).take m) (fz.take m) = g2 := ⟨_, rfl⟩
              have HG2 := Lib.hid hg2
              have HMM : Hid (m = min (bz ++ [s]).length fz.length) := by show _ = _; rw [List.length_append, List.length_singleton, HBG.out.1, HFG.out.1]; exact hm.symm
              have HS1 : Hid (Sl .i64 w6 a6 m c6 (([] ++ bz ++ [s]).take m)) := HG6.out.cutR hm1
              have HS2 : Hid (Sl .i64 w6 fa m fc (fz.take m)) := (HFG.out.below HB6.out (Nat.le_refl _)).cutR hm2
              have HNX : Hid (bhdA l at_ (k + 1) bz fz = bhdA l at_ k bz fz ++ bhd l tn (bz ++ [s]) fz) := bhdA_next l at_ bz fz (by rw [HST.out]; show k < arcs.length; rw [HARS.out.1]; exact hkl) (by rw [HST.out]; exact HST2.out)
              have HM6 : Hid (Ml w.heap.size w6 oa L c outs) := HMY.out.below HB6.out
              have HWT : Hid (Below w.heap.size w w6) := HBW.out.trans (HB6.out.mono HBW.out.size)
              have hLN : L ≤ N := by rw [← HM.out.len, ← nums_length, HS.out, List.length_take]; exact Nat.min_le_left _ _
              have hc60 : w6.cell? ⟨wr.heap.size, 0, none⟩ = some (.int .i64 s) := hS6.1
              have hc61 : w6.cell? ⟨wr.heap.size, 1, none⟩ = some (.int .i64 (tn : Int)) := hS6.2
              have hc61' : ∀ q, (w6.drewN q).cell? ⟨wr.heap.size, 1, none⟩ = some (.int .i64 (tn : Int)) := fun _ => hS6.2
              clear hg2 hm hbT6 hHeld hS0 hS2 hS5 hS6
              cases g2
              · obtain ⟨M, hM⟩ : ∃ M, N - L = M := ⟨_, rfl⟩
                have hmL : min (N : Int) (L : Int) = (L : Int) := by omega
                have hsub : IntKind.i64.wrap ((N : Int) - (L : Int)) = (M : Int) := by rw [IntKind.wrap_i64]; omega
                have HMN : Hid (M = N - min N L) := by show _ = _; omega
                have hM3 : M ≤ 300 := by omega
                have HLL : Hid (((bhdA l at_ k bz fz).take N).length = L) := by show _ = _; rw [← HS.out, nums_length]; exact HM.out.len
                have htd : n - tn ≤ d := by omega
                have hbt : bn + 1 ≤ tn := by omega
                clear hM
                go_wp2
                go_quiet ((go_at_call 60; exact Calls.quiet_of (rless_is a6 fa m m c6 fc _ _ false _ (HS1.out.drewN _) (HS2.out.drewN _) HG2.out)))
                go_wp2_with fail
                refine (HIH.out tn htl3 htd _ a6 (bn + 1) c6 ([] ++ bz ++ [s]) M ((HXY.out.below HB6.out (Nat.le_refl _)).drawn ⟨_, rfl⟩) ((HCY.out.below HB6.out).drewN _) hcc (HG6.out.drewN _) HN6.out hbt ((HFG.out.below HB6.out (Nat.le_refl _)).drewN _) hM3).mono ?_
                rintro e w7 ⟨a7, k7, c7, o7, rfl, m7, n7, b7⟩
                have HB7 : Hid (Below w6.heap.size w6 w7) := (below_drewN (Below.refl _ _) _).trans b7
                have HM7 : Hid (Ml w.heap.size w7 oa L c outs) := HM6.out.below HB7.out
                have HO7 : Hid (Ml w.heap.size w7 a7 k7 c7 o7) := m7.lowerR HWT.out.size
                have hk7 : k7 ≤ M := by rw [← m7.len, ← nums_length, n7, List.length_take]; exact Nat.min_le_left _ _
                have HN7 := Lib.hid n7
                have HW7 : Hid (Below w.heap.size w w7) := HWT.out.trans (HB7.out.mono HWT.out.size)
                clear m7 n7 b7
                go_wp2_with (at_builtin; refine append_words_w (by rfl) (.tmp 82) (.tmp 95) (by rfl) w.heap.size _ L outs (by rfl) HM7.out.row a7 k7 c7 o7 (by rfl) HO7.out.words HO7.out.nil (L + k7) rfl (by omega) HW7.out.size ?_; intro a8 c8 w8 hrow8 hb8 hg8 hn8; have HM8 := Lib.hid (HM7.out.app o7 HO7.out.own HO7.out.wfs HO7.out.lens HO7.out.len hrow8 hg8 hn8); have HB8 : Hid (Below w.heap.size w w8) := HW7.out.trans hb8; clear hrow8 hb8 hg8 hn8)
                have HS8 : Hid (nums (outs ++ o7) = (bhdA l at_ (k + 1) bz fz).take N) := by
                  show _ = _
                  rw [HNX.out, take_on, HLL.out, ← HMN.out, nums_app, HS.out, HN7.out, List.nil_append]
                go_roundw
                case rel => exact ⟨k + 1, L + k7, c8, a8, outs ++ o7, by omega, rfl, by go_num, HM8.out, HS8.out, HB8.out⟩
                case measure => simp [intOf]; omega
              · have HS8 : Hid (nums outs = (bhdA l at_ (k + 1) bz fz).take N) := by
                  show _ = _
                  rw [HNX.out, bhd_pass l tn (b := bz ++ [s]) (fr := fz) (by rw [← HMM.out]; have h := HG2.out; rw [List.nil_append] at h; exact h), List.append_nil]
                  exact HS.out
                go_wp2
                go_quiet ((go_at_call 60; exact Calls.quiet_of (rless_is a6 fa m m c6 fc _ _ true _ (HS1.out.drewN _) (HS2.out.drewN _) HG2.out)))
                go_wp2
                go_roundw
                case rel => exact ⟨k + 1, L, c, oa, outs, by omega, rfl, by go_num, HM6.out.below (below_drewN (Below.refl _ _) _), HS8.out, below_drewN HWT.out _⟩
                case measure => simp [intOf]; omega
              
            · refine stepR_one (by rfl) (.tmp 66) s (by rfl) (by rfl) HWS.out ?_
              intro w5 hsl5 hz5 hbx5
              have hbT5 : Below wy.heap.size wy w5 := hbT0.trans (hbx5.mono hbT0.size)
              replace hown0 := ownsRow_below hown0 hbx5 (Nat.le_refl _)
              have hS5 := HKS.out _ hbT5
              refine hK.out _ _ (by first | (first | exact HKS.out _ HBD.out | exact hS0 | exact hS2 | exact hS5 | exact hS6) | ((try dsimp only); first | exact HKS.out _ HBD.out | exact hS0 | exact hS2 | exact hS5 | exact hS6)) (fun hHeld => ?_)
              clear hK K
              try simp only [Act.put, List.getElem_toArray, List.getElem_cons_succ, List.getElem_cons_zero, List.setIfInBounds_toArray, List.set_cons_succ, List.set_cons_zero]
              refine wpAnyH_ready (rs := [2]) (by kernel_rfl) (by simp) ?_
              refine AllReadyH.cons rfl (fun K hK => ?_) AllReadyH.nil
              refine stepR_append (by rfl) (.tmp 62) (.tmp 63) (by rfl) wy.heap.size _ 0 [] (by rfl) hown0 ba bn bc bz (by rfl) (HBG.out.below hbT5 (Nat.le_refl _)) HBN.out bn (by omega) (by omega) hbT5.size ?_
              intro a2 c2 w2 hown2 hbx2 hgr2 _
              have hbT2 : Below wy.heap.size wy w2 := hbT5.trans hbx2
              replace hsl5 := hsl5.grownR hgr2 (by dsimp only; omega)
              have hS2 := HKS.out _ hbT2
              refine hK.out _ _ (by first | (first | exact HKS.out _ HBD.out | exact hS0 | exact hS2 | exact hS5 | exact hS6) | ((try dsimp only); first | exact HKS.out _ HBD.out | exact hS0 | exact hS2 | exact hS5 | exact hS6)) (fun hHeld => ?_)
              clear hK K
              try simp only [Act.put, List.getElem_toArray, List.getElem_cons_succ, List.getElem_cons_zero, List.setIfInBounds_toArray, List.set_cons_succ, List.set_cons_zero]
              refine wpAnyH_ready (rs := [6]) (by kernel_rfl) (by simp) ?_
              refine AllReadyH.cons rfl (fun K hK => ?_) AllReadyH.nil
              refine stepR_append (by rfl) (.tmp 64) (.tmp 67) (by rfl) wy.heap.size _ bn ([] ++ bz) (by rfl) hown2 _ 1 1 [s] (by rfl) hsl5 (fun h => by cases h) (bn + 1) rfl (by omega) hbT2.size ?_
              intro a6 c6 w6 hown6 hbx6 _ hn6
              have hbT6 : Below wy.heap.size wy w6 := hbT2.trans hbx6
              have hS6 := HKS.out _ hbT6
              refine hK.out _ _ (by first | (first | exact HKS.out _ HBD.out | exact hS0 | exact hS2 | exact hS5 | exact hS6) | ((try dsimp only); first | exact HKS.out _ HBD.out | exact hS0 | exact hS2 | exact hS5 | exact hS6)) (fun hHeld => ?_)
              clear hK K
              try simp only [Act.put, List.getElem_toArray, List.getElem_cons_succ, List.getElem_cons_zero, List.setIfInBounds_toArray, List.set_cons_succ, List.set_cons_zero]
              refine wpAnyH_take (i := 7) (v := ?vrb153) rfl (by kernel_rfl) (by kernel_rfl) (by kernel_rfl) (fun _ _ _ h => h) (Or.inl ⟨by rfl, ?hrb153⟩) (by assumption) ?rrb153
              case hrb153 => intro w hSw; (try dsimp only at hSw); go_simp; try with_reducible rfl
              simp only [Act.put, List.getElem_toArray, List.getElem_cons_succ, List.getElem_cons_zero, List.setIfInBounds_toArray, List.set_cons_succ, List.set_cons_zero]
              refine wpAnyH_done (by kernel_rfl) ?_ _
              have HG6 : Hid (Sl .i64 w6 a6 (bn + 1) c6 ([] ++ bz ++ [s])) := Sl.of_owns hown6 (by
                intro x hx
                rcases List.mem_append.1 hx with hx | hx
                · exact HBG.out.2.2.2.1 x (by simpa using hx)
                · rw [List.mem_singleton.1 hx]; exact HWS.out) (by simp [HBG.out.1])
              have HN6 := Lib.hid hn6
              have HB6 := Lib.hid hbT6
              have hc6 := HG6.out.2.1
              have hc6' := HG6.out.2.2.1
              unfold maxLen at hc6'
              clear hown6 hn6
              obtain ⟨m, hm⟩ : ∃ m, min (bn + 1) fn = m := ⟨_, rfl⟩
              have hmI : min (((bn + 1 : Nat)) : Int) (fn : Int) = (m : Int) := by omega
              have hmI' : min ((bn : Int) + 1) (fn : Int) = (m : Int) := by omega
              have hm1 : m ≤ bn + 1 := by omega
              have hm2 : m ≤ fn := by omega
              have hm0 : (0 : Int) ≤ (m : Int) := by omega
              have hm3 : (m : Int) ≤ (c6 : Int) := by omega
              have hm4 : (m : Int) ≤ (fc : Int) := by omega
              have hmc : m ≤ c6 := by omega
              have hmf : m ≤ fc := by omega
              obtain ⟨g2, hg2⟩ : ∃ g2, lessL (([] ++ bz ++ [s]).take m) (fz.take m) = g2 := ⟨_, rfl⟩
              have HG2 := Lib.hid hg2
              have HMM : Hid (m = min (bz ++ [s]).length fz.length) := by show _ = _; rw [List.length_append, List.length_singleton, HBG.out.1, HFG.out.1]; exact hm.symm
              have HS1 : Hid (Sl .i64 w6 a6 m c6 (([] ++ bz ++ [s]).take m)) := HG6.out.cutR hm1
              have HS2 : Hid (Sl .i64 w6 fa m fc (fz.take m)) := (HFG.out.below HB6.out (Nat.le_refl _)).cutR hm2
              have HNX : Hid (bhdA l at_ (k + 1) bz fz = bhdA l at_ k bz fz ++ bhd l tn (bz ++ [s]) fz) := bhdA_next l at_ bz fz (by rw [HST.out]; show k < arcs.length; rw [HARS.out.1]; exact hkl) (by rw [HST.out]; exact HST2.out)
              have HM6 : Hid (Ml w.heap.size w6 oa L c outs) := HMY.out.below HB6.out
              have HWT : Hid (Below w.heap.size w w6) := HBW.out.trans (HB6.out.mono HBW.out.size)
              have hLN : L ≤ N := by rw [← HM.out.len, ← nums_length, HS.out, List.length_take]; exact Nat.min_le_left _ _
              have hc60 : w6.cell? ⟨wr.heap.size, 0, none⟩ = some (.int .i64 s) := hS6.1
              have hc61 : w6.cell? ⟨wr.heap.size, 1, none⟩ = some (.int .i64 (tn : Int)) := hS6.2
              have hc61' : ∀ q, (w6.drewN q).cell? ⟨wr.heap.size, 1, none⟩ = some (.int .i64 (tn : Int)) := fun _ => hS6.2
              clear hg2 hm hbT6 hHeld hS0 hS2 hS5 hS6
              cases g2
              · obtain ⟨M, hM⟩ : ∃ M, N - L = M := ⟨_, rfl⟩
                have hmL : min (N : Int) (L : Int) = (L : Int) := by omega
                have hsub : IntKind.i64.wrap ((N : Int) - (L : Int)) = (M : Int) := by rw [IntKind.wrap_i64]; omega
                have HMN : Hid (M = N - min N L) := by show _ = _; omega
                have hM3 : M ≤ 300 := by omega
                have HLL : Hid (((bhdA l at_ k bz fz).take N).length = L) := by show _ = _; rw [← HS.out, nums_length]; exact HM.out.len
                have htd : n - tn ≤ d := by omega
                have hbt : bn + 1 ≤ tn := by omega
                clear hM
                go_wp2
                go_quiet ((go_at_call 60; exact Calls.quiet_of (rless_is a6 fa m m c6 fc _ _ false _ (HS1.out.drewN _) (HS2.out.drewN _) HG2.out)))
                go_wp2_with fail
                refine (HIH.out tn htl3 htd _ a6 (bn + 1) c6 ([] ++ bz ++ [s]) M ((HXY.out.below HB6.out (Nat.le_refl _)).drawn ⟨_, rfl⟩) ((HCY.out.below HB6.out).drewN _) hcc (HG6.out.drewN _) HN6.out hbt ((HFG.out.below HB6.out (Nat.le_refl _)).drewN _) hM3).mono ?_
                rintro e w7 ⟨a7, k7, c7, o7, rfl, m7, n7, b7⟩
                have HB7 : Hid (Below w6.heap.size w6 w7) := (below_drewN (Below.refl _ _) _).trans b7
                have HM7 : Hid (Ml w.heap.size w7 oa L c outs) := HM6.out.below HB7.out
                have HO7 : Hid (Ml w.heap.size w7 a7 k7 c7 o7) := m7.lowerR HWT.out.size
                have hk7 : k7 ≤ M := by rw [← m7.len, ← nums_length, n7, List.length_take]; exact Nat.min_le_left _ _
                have HN7 := Lib.hid n7
                have HW7 : Hid (Below w.heap.size w w7) := HWT.out.trans (HB7.out.mono HWT.out.size)
                clear m7 n7 b7
                go_wp2_with (at_builtin; refine append_words_w (by rfl) (.tmp 82) (.tmp 95) (by rfl) w.heap.size _ L outs (by rfl) HM7.out.row a7 k7 c7 o7 (by rfl) HO7.out.words HO7.out.nil (L + k7) rfl (by omega) HW7.out.size ?_; intro a8 c8 w8 hrow8 hb8 hg8 hn8; have HM8 := Lib.hid (HM7.out.app o7 HO7.out.own HO7.out.wfs HO7.out.lens HO7.out.len hrow8 hg8 hn8); have HB8 : Hid (Below w.heap.size w w8) := HW7.out.trans hb8; clear hrow8 hb8 hg8 hn8)
                have HS8 : Hid (nums (outs ++ o7) = (bhdA l at_ (k + 1) bz fz).take N) := by
                  show _ = _
                  rw [HNX.out, take_on, HLL.out, ← HMN.out, nums_app, HS.out, HN7.out, List.nil_append]
                go_roundw
                case rel => exact ⟨k + 1, L + k7, c8, a8, outs ++ o7, by omega, rfl, by go_num, HM8.out, HS8.out, HB8.out⟩
                case measure => simp [intOf]; omega
              · have HS8 : Hid (nums outs = (bhdA l at_ (k + 1) bz fz).take N) := by
                  show _ = _
                  rw [HNX.out, bhd_pass l tn (b := bz ++ [s]) (fr := fz) (by rw [← HMM.out]; have h := HG2.out; rw [List.nil_append] at h; exact h), List.append_nil]
                  exact HS.out
                go_wp2
                go_quiet ((go_at_call 60; exact Calls.quiet_of (rless_is a6 fa m m c6 fc _ _ true _ (HS1.out.drewN _) (HS2.out.drewN _) HG2.out)))
                go_wp2
                go_roundw
                case rel => exact ⟨k + 1, L, c, oa, outs, by omega, rfl, by go_num, HM6.out.below (below_drewN (Below.refl _ _) _), HS8.out, below_drewN HWT.out _⟩
                case measure => simp [intOf]; omega
              
          · refine stepR_one (by rfl) (.tmp 66) s (by rfl) (by rfl) HWS.out ?_
            intro w5 hsl5 hz5 hbx5
            have hbT5 : Below wy.heap.size wy w5 := HBD.out.trans (hbx5.mono HBD.out.size)
            have hS5 := HKS.out _ hbT5
            refine hK.out _ _ (by first | (first | exact HKS.out _ HBD.out | exact hS0 | exact hS2 | exact hS5 | exact hS6) | ((try dsimp only); first | exact HKS.out _ HBD.out | exact hS0 | exact hS2 | exact hS5 | exact hS6)) (fun hHeld => ?_)
            clear hK K
            try simp only [Act.put, List.getElem_toArray, List.getElem_cons_succ, List.getElem_cons_zero, List.setIfInBounds_toArray, List.set_cons_succ, List.set_cons_zero]
            refine wpAnyH_ready (rs := [0]) (by kernel_rfl) (by simp) ?_
            refine AllReadyH.cons rfl (fun K hK => ?_) AllReadyH.nil
            refine stepR_none (by rfl) (by rfl) ?_
            intro w0 hown0' hz0 hbx0
            have hown0 := own_lower hown0' hbT5.size
            have hbT0 : Below wy.heap.size wy w0 := hbT5.trans (hbx0.mono hbT5.size)
            replace hsl5 := hsl5.below hbx0 (Nat.le_refl _)
            have hS0 := HKS.out _ hbT0
            refine hK.out _ _ (by first | (first | exact HKS.out _ HBD.out | exact hS0 | exact hS2 | exact hS5 | exact hS6) | ((try dsimp only); first | exact HKS.out _ HBD.out | exact hS0 | exact hS2 | exact hS5 | exact hS6)) (fun hHeld => ?_)
            clear hK K
            try simp only [Act.put, List.getElem_toArray, List.getElem_cons_succ, List.getElem_cons_zero, List.setIfInBounds_toArray, List.set_cons_succ, List.set_cons_zero]
            refine wpAnyH_ready (rs := [2]) (by kernel_rfl) (by simp) ?_
            refine AllReadyH.cons rfl (fun K hK => ?_) AllReadyH.nil
            refine stepR_append (by rfl) (.tmp 62) (.tmp 63) (by rfl) wy.heap.size _ 0 [] (by rfl) hown0 ba bn bc bz (by rfl) (HBG.out.below hbT0 (Nat.le_refl _)) HBN.out bn (by omega) (by omega) hbT0.size ?_
            intro a2 c2 w2 hown2 hbx2 hgr2 _
            have hbT2 : Below wy.heap.size wy w2 := hbT0.trans hbx2
            replace hsl5 := hsl5.grownR hgr2 (by dsimp only; omega)
            have hS2 := HKS.out _ hbT2
            refine hK.out _ _ (by first | (first | exact HKS.out _ HBD.out | exact hS0 | exact hS2 | exact hS5 | exact hS6) | ((try dsimp only); first | exact HKS.out _ HBD.out | exact hS0 | exact hS2 | exact hS5 | exact hS6)) (fun hHeld => ?_)
            clear hK K
            try simp only [Act.put, List.getElem_toArray, List.getElem_cons_succ, List.getElem_cons_zero, List.setIfInBounds_toArray, List.set_cons_succ, List.set_cons_zero]
            refine wpAnyH_ready (rs := [6]) (by kernel_rfl) (by simp) ?_
            refine AllReadyH.cons rfl (fun K hK => ?_) AllReadyH.nil
            refine stepR_append (by rfl) (.tmp 64) (.tmp 67) (by rfl) wy.heap.size _ bn ([] ++ bz) (by rfl) hown2 _ 1 1 [s] (by rfl) hsl5 (fun h => by cases h) (bn + 1) rfl (by omega) hbT2.size ?_
            intro a6 c6 w6 hown6 hbx6 _ hn6
            have hbT6 : Below wy.heap.size wy w6 := hbT2.trans hbx6
            have hS6 := HKS.out _ hbT6
            refine hK.out _ _ (by first | (first | exact HKS.out _ HBD.out | exact hS0 | exact hS2 | exact hS5 | exact hS6) | ((try dsimp only); first | exact HKS.out _ HBD.out | exact hS0 | exact hS2 | exact hS5 | exact hS6)) (fun hHeld => ?_)
            clear hK K
            try simp only [Act.put, List.getElem_toArray, List.getElem_cons_succ, List.getElem_cons_zero, List.setIfInBounds_toArray, List.set_cons_succ, List.set_cons_zero]
            refine wpAnyH_take (i := 7) (v := ?vrb268) rfl (by kernel_rfl) (by kernel_rfl) (by kernel_rfl) (fun _ _ _ h => h) (Or.inl ⟨by rfl, ?hrb268⟩) (by assumption) ?rrb268
            case hrb268 => intro w hSw; (try dsimp only at hSw); go_simp; try with_reducible rfl
            simp only [Act.put, List.getElem_toArray, List.getElem_cons_succ, List.getElem_cons_zero, List.setIfInBounds_toArray, List.set_cons_succ, List.set_cons_zero]
            refine wpAnyH_done (by kernel_rfl) ?_ _
            have HG6 : Hid (Sl .i64 w6 a6 (bn + 1) c6 ([] ++ bz ++ [s])) := Sl.of_owns hown6 (by
              intro x hx
              rcases List.mem_append.1 hx with hx | hx
              · exact HBG.out.2.2.2.1 x (by simpa using hx)
              · rw [List.mem_singleton.1 hx]; exact HWS.out) (by simp [HBG.out.1])
            have HN6 := Lib.hid hn6
            have HB6 := Lib.hid hbT6
            have hc6 := HG6.out.2.1
            have hc6' := HG6.out.2.2.1
            unfold maxLen at hc6'
            clear hown6 hn6
            obtain ⟨m, hm⟩ : ∃ m, min (bn + 1) fn = m := ⟨_, rfl⟩
            have hmI : min (((bn + 1 : Nat)) : Int) (fn : Int) = (m : Int) := by omega
            have hmI' : min ((bn : Int) + 1) (fn : Int) = (m : Int) := by omega
            have hm1 : m ≤ bn + 1 := by omega
            have hm2 : m ≤ fn := by omega
            have hm0 : (0 : Int) ≤ (m : Int) := by omega
            have hm3 : (m : Int) ≤ (c6 : Int) := by omega
            have hm4 : (m : Int) ≤ (fc : Int) := by omega
            have hmc : m ≤ c6 := by omega
            have hmf : m ≤ fc := by omega
            obtain ⟨g2, hg2⟩ : ∃ g2, lessL (([] ++ bz ++ [s]).take m) (fz.take m) = g2 := ⟨_, rfl⟩
            have HG2 := Lib.hid hg2
            have HMM : Hid (m = min (bz ++ [s]).length fz.length) := by show _ = _; rw [List.length_append, List.length_singleton, HBG.out.1, HFG.out.1]; exact hm.symm
            have HS1 : Hid (Sl .i64 w6 a6 m c6 (([] ++ bz ++ [s]).take m)) := HG6.out.cutR hm1
            have HS2 : Hid (Sl .i64 w6 fa m fc (fz.take m)) := (HFG.out.below HB6.out (Nat.le_refl _)).cutR hm2
            have HNX : Hid (bhdA l at_ (k + 1) bz fz = bhdA l at_ k bz fz ++ bhd l tn (bz ++ [s]) fz) := bhdA_next l at_ bz fz (by rw [HST.out]; show k < arcs.length; rw [HARS.out.1]; exact hkl) (by rw [HST.out]; exact HST2.out)
            have HM6 : Hid (Ml w.heap.size w6 oa L c outs) := HMY.out.below HB6.out
            have HWT : Hid (Below w.heap.size w w6) := HBW.out.trans (HB6.out.mono HBW.out.size)
            have hLN : L ≤ N := by rw [← HM.out.len, ← nums_length, HS.out, List.length_take]; exact Nat.min_le_left _ _
            have hc60 : w6.cell? ⟨wr.heap.size, 0, none⟩ = some (.int .i64 s) := hS6.1
            have hc61 : w6.cell? ⟨wr.heap.size, 1, none⟩ = some (.int .i64 (tn : Int)) := hS6.2
            have hc61' : ∀ q, (w6.drewN q).cell? ⟨wr.heap.size, 1, none⟩ = some (.int .i64 (tn : Int)) := fun _ => hS6.2
            clear hg2 hm hbT6 hHeld hS0 hS2 hS5 hS6
            cases g2
            · obtain ⟨M, hM⟩ : ∃ M, N - L = M := ⟨_, rfl⟩
              have hmL : min (N : Int) (L : Int) = (L : Int) := by omega
              have hsub : IntKind.i64.wrap ((N : Int) - (L : Int)) = (M : Int) := by rw [IntKind.wrap_i64]; omega
              have HMN : Hid (M = N - min N L) := by show _ = _; omega
              have hM3 : M ≤ 300 := by omega
              have HLL : Hid (((bhdA l at_ k bz fz).take N).length = L) := by show _ = _; rw [← HS.out, nums_length]; exact HM.out.len
              have htd : n - tn ≤ d := by omega
              have hbt : bn + 1 ≤ tn := by omega
              clear hM
              go_wp2
              go_quiet ((go_at_call 60; exact Calls.quiet_of (rless_is a6 fa m m c6 fc _ _ false _ (HS1.out.drewN _) (HS2.out.drewN _) HG2.out)))
              go_wp2_with fail
              refine (HIH.out tn htl3 htd _ a6 (bn + 1) c6 ([] ++ bz ++ [s]) M ((HXY.out.below HB6.out (Nat.le_refl _)).drawn ⟨_, rfl⟩) ((HCY.out.below HB6.out).drewN _) hcc (HG6.out.drewN _) HN6.out hbt ((HFG.out.below HB6.out (Nat.le_refl _)).drewN _) hM3).mono ?_
              rintro e w7 ⟨a7, k7, c7, o7, rfl, m7, n7, b7⟩
              have HB7 : Hid (Below w6.heap.size w6 w7) := (below_drewN (Below.refl _ _) _).trans b7
              have HM7 : Hid (Ml w.heap.size w7 oa L c outs) := HM6.out.below HB7.out
              have HO7 : Hid (Ml w.heap.size w7 a7 k7 c7 o7) := m7.lowerR HWT.out.size
              have hk7 : k7 ≤ M := by rw [← m7.len, ← nums_length, n7, List.length_take]; exact Nat.min_le_left _ _
              have HN7 := Lib.hid n7
              have HW7 : Hid (Below w.heap.size w w7) := HWT.out.trans (HB7.out.mono HWT.out.size)
              clear m7 n7 b7
              go_wp2_with (at_builtin; refine append_words_w (by rfl) (.tmp 82) (.tmp 95) (by rfl) w.heap.size _ L outs (by rfl) HM7.out.row a7 k7 c7 o7 (by rfl) HO7.out.words HO7.out.nil (L + k7) rfl (by omega) HW7.out.size ?_; intro a8 c8 w8 hrow8 hb8 hg8 hn8; have HM8 := Lib.hid (HM7.out.app o7 HO7.out.own HO7.out.wfs HO7.out.lens HO7.out.len hrow8 hg8 hn8); have HB8 : Hid (Below w.heap.size w w8) := HW7.out.trans hb8; clear hrow8 hb8 hg8 hn8)
              have HS8 : Hid (nums (outs ++ o7) = (bhdA l at_ (k + 1) bz fz).take N) := by
                show _ = _
                rw [HNX.out, take_on, HLL.out, ← HMN.out, nums_app, HS.out, HN7.out, List.nil_append]
              go_roundw
              case rel => exact ⟨k + 1, L + k7, c8, a8, outs ++ o7, by omega, rfl, by go_num, HM8.out, HS8.out, HB8.out⟩
              case measure => simp [intOf]; omega
            · have HS8 : Hid (nums outs = (bhdA l at_ (k + 1) bz fz).take N) := by
                show _ = _
                rw [HNX.out, bhd_pass l tn (b := bz ++ [s]) (fr := fz) (by rw [← HMM.out]; have h := HG2.out; rw [List.nil_append] at h; exact h), List.append_nil]
                exact HS.out
              go_wp2
              go_quiet ((go_at_call 60; exact Calls.quiet_of (rless_is a6 fa m m c6 fc _ _ true _ (HS1.out.drewN _) (HS2.out.drewN _) HG2.out)))
              go_wp2
              go_roundw
              case rel => exact ⟨k + 1, L, c, oa, outs, by omega, rfl, by go_num, HM6.out.below (below_drewN (Below.refl _ _) _), HS8.out, below_drewN HWT.out _⟩
              case measure => simp [intOf]; omega
            
        · obtain rfl : sn = k := by omega
          have HE : Hid (nums outs = (bhd l at_ bz fz).take N) := by
            show _ = _
            rw [HS.out, ← bhdA_all hc (by rw [HLN.out]; exact hat), HST.out]
            show _ = List.take N (bhdA l at_ arcs.length bz fz)
            rw [HARS.out.1]
          have hLN : L ≤ N := by rw [← HM.out.len, ← nums_length, HS.out, List.length_take]; exact Nat.min_le_left _ _
          have hmL : min (N : Int) (L : Int) = (L : Int) := by omega
          have hLc : L ≤ c := HM.out.words.2.1
          have hcm := HM.out.words.2.2.1
          unfold maxLen at hcm
          have hL1 : (0 : Int) ≤ (L : Int) := by omega
          have hL2 : (L : Int) ≤ (c : Int) := by omega
          go_wp2
          go_ret
          exact ⟨_, _, _, outs, rfl, HM.out, HE.out, HB.out⟩
    · cases g
      · have HX1 : Hid (bhdA l at_ 0 bz fz = [bz]) := by show _ = _; rw [bhdA_zero l at_ bz fz (by rw [HST.out]) HG.out]; simp
        go_enter Try.func32, Try.ntmps32
        go_wp2_with fail
        refine (rless_is ba fa bn fn bc fc bz fz false _ HBG0.out HFG0.out HG.out).mono ?_
        rintro e w1 ⟨rfl, q1⟩
        have HB1 : Hid (Below w.heap.size w w1) := below_drawn (Below.refl _ _) q1
        have HBG1 := Lib.hid (HBG0.out.below HB1.out (Nat.le_refl _))
        have HBA : ∀ o, Hid (Below w1.heap.size w1 (w1.alloc o)) := fun o => Lib.hid ((Below.refl _ w1).alloc (Nat.le_refl _) o)
        clear q1
        go_wp2_with first
          | (at_builtin; refine append_ints rfl (.tmp 39) (.tmp 40) (by rfl) w1.heap.size _ 0 [] (by rfl) (owns_none_ints w1) ba bn bc bz (by rfl) (HBG1.out.alloc _) HBN.out bn (by omega) (by omega) (by simp) ?_
             intro a2 c2 w2 hown2 hb2 hn2
             have HB2 : Hid (Below w1.heap.size w1 w2) := (HBA _).out.trans hb2
             have HW2 : Hid (Below w.heap.size w w2) := HB1.out.trans (HB2.out.mono HB1.out.size)
             have HG2 : Hid (Wd.Good w2 (Wd.mk a2 bn c2 ([] ++ bz))) := Sl.of_owns hown2 (by intro x hx; exact HBG1.out.2.2.2.1 x (by simpa using hx)) (by simp [HBG1.out.1])
             have HO2 := Lib.hid (own_lower hown2 HB1.out.size)
             clear hown2 hb2 hn2)
          | (at_builtin; refine append_words_g rfl (.tmp 38) (.tmp 42) (by rfl) w.heap.size _ 0 [] (by rfl) (owns_nil_words _ _) (some ⟨w2.heap.size, 0, none⟩) 1 1 [Wd.mk a2 bn c2 ([] ++ bz)] (by rfl) (Ws.newc [Wd.mk a2 bn c2 ([] ++ bz)] (by intro x hx; rw [List.mem_singleton.1 hx]; exact HG2.out) (by simp [maxLen]) rfl rfl rfl) (fun h => by cases h) 1 rfl (by omega) (by rw [size_alloc]; have := HW2.out.size; omega) ?_
             intro a3 c3 w3 hrow3 hb3 hg3 hn3
             have HM0 := Lib.hid ((Ml.start w.heap.size _).add (Wd.mk a2 bn c2 ([] ++ bz)) (World.ownsRow.alloc HO2.out _) HG2.out.2.2.2.1 HG2.out.1 hrow3 hg3 hn3)
             have HB0 : Hid (Below w.heap.size w w3) := (HW2.out.alloc HW2.out.size _).trans hb3
             clear hrow3 hb3 hg3 hn3)
        have HS0 : Hid (nums ([] ++ [Wd.mk a2 bn c2 ([] ++ bz)]) = (bhdA l at_ 0 bz fz).take N) := by
          show _ = _
          rw [HX1.out, List.take_of_length_le (by simp; omega)]
          simp [nums]
        go_loopw [13, 14] (fun ov ix wr => ∃ (k L c : Nat) (oa : Option Addr) (outs : List Wd), k ≤ sn ∧ ov = .slice oa L c ∧ ix = .int .i64 (k : Int) ∧ Hid (Ml w.heap.size wr oa L c outs) ∧ Hid (nums outs = (bhdA l at_ k bz fz).take N) ∧ Hid (Below w.heap.size w wr)) (fun _ ix _ => sn - (intOf ix).toNat)
        case atStart => exact ⟨0, _, _, _, _, Nat.zero_le _, rfl, rfl, HM0.out, HS0.out, HB0.out⟩
        case round =>
          obtain ⟨k, L, c, oa, outs, hk, rfl, rfl, HM, HS, HB⟩ := hrel
          have hc2 : wr.cell? ⟨b1, o1 + at_ * 2 + 1, none⟩ = some (.slice sa sn sc) := by
            rw [HB.out.cell (p := ⟨b1, o1 + at_ * 2 + 1, none⟩) HBL.out]; exact HCS.out
          by_cases hkl : k < sn
          · obtain ⟨b2, o2, s, t, rfl, hb2, hy0, hy1, hws, hwt, hst⟩ := HARS.out.one k hkl
            have hy0' : wr.cell? ⟨b2, o2 + k * 2, none⟩ = some (.int .i64 s) := by
              rw [HB.out.cell (p := ⟨b2, o2 + k * 2, none⟩) hb2]; exact hy0
            have hy1' : wr.cell? ⟨b2, o2 + k * 2 + 1, none⟩ = some (.int .i64 t) := by
              rw [HB.out.cell (p := ⟨b2, o2 + k * 2 + 1, none⟩) hb2]; exact hy1
            obtain ⟨htl, htn⟩ := HUP.out k hkl hst
            obtain ⟨tn, rfl⟩ : ∃ m : Nat, t = (m : Int) := ⟨t.toNat, by omega⟩
            have htl3 : tn < n := by omega
            have HWS := Lib.hid hws
            have HST2 := Lib.hid hst
            have hkli : (k : Int) < (sn : Int) := by omega
            have hk0 : (0 : Int) ≤ (k : Int) := by omega
            obtain ⟨wy, hwy⟩ : ∃ W, W = wr.alloc (.cells #[.int .i64 s, .int .i64 (tn : Int)] 59) := ⟨_, rfl⟩
            have hBY : Below wr.heap.size wr wy := by rw [hwy]; exact (Below.refl _ wr).alloc (Nat.le_refl _) _
            have hBW : Below w.heap.size w wy := HB.out.trans (hBY.mono HB.out.size)
            have hcy : wy.cell? ⟨wr.heap.size, 0, none⟩ = some (.int .i64 s) ∧ wy.cell? ⟨wr.heap.size, 1, none⟩ = some (.int .i64 (tn : Int)) := by
              rw [hwy]; exact ⟨by rw [cell_of_obj (heap_alloc_new wr _)]; rfl, by rw [cell_of_obj (heap_alloc_new wr _)]; rfl⟩
            have hsy : wr.heap.size < wy.heap.size := by rw [hwy, size_alloc]; omega
            have HKS : Hid (∀ W, Below wy.heap.size wy W → W.cell? ⟨wr.heap.size, 0, none⟩ = some (.int .i64 s) ∧ W.cell? ⟨wr.heap.size, 1, none⟩ = some (.int .i64 (tn : Int))) := Lib.hid fun W hW => ⟨by rw [hW.cell (p := ⟨wr.heap.size, 0, none⟩) hsy]; exact hcy.1, by rw [hW.cell (p := ⟨wr.heap.size, 1, none⟩) hsy]; exact hcy.2⟩
            have HBD : Hid (Below wy.heap.size wy wy.drew) := below_drawn (Below.refl _ _) ⟨1, rfl⟩
            have HBG : Hid (Sl .i64 wy ba bn bc bz) := HBG0.out.below hBW (Nat.le_refl _)
            have HFG : Hid (Sl .i64 wy fa fn fc fz) := HFG0.out.below hBW (Nat.le_refl _)
            have HXY : Hid (Ss wy _ n cap xs) := HX.out.below hBW (Nat.le_refl _)
            have HCY : Hid (CntAt wy cg n l) := HCN.out.below hBW
            have HMY : Hid (Ml w.heap.size wy oa L c outs) := HM.out.below hBY
            have HBW := Lib.hid hBW
            have HWY := Lib.hid hwy
            clear hb2 hy0 hy1 hws hwt hst hcy hBW hBY hwy
            go_wp2
            rw [← HWY.out]
            clear HWY
            refine wp_region_held_drew (S := (fun W => W.cell? ⟨wr.heap.size, 0, none⟩ = some (.int .i64 s) ∧ W.cell? ⟨wr.heap.size, 1, none⟩ = some (.int .i64 (tn : Int)))) (by kernel_rfl) (by first | (first | exact HKS.out _ HBD.out | exact hS0 | exact hS2 | exact hS5 | exact hS6) | ((try dsimp only); first | exact HKS.out _ HBD.out | exact hS0 | exact hS2 | exact hS5 | exact hS6)) (fun hHeld => ?_)
            refine wpAnyH_take (i := 1) (v := ?vrc1) rfl (by kernel_rfl) (by kernel_rfl) (by kernel_rfl) (fun _ _ _ h => h) (Or.inl ⟨by rfl, ?hrc1⟩) (by assumption) ?rrc1
            case hrc1 => intro w hSw; (try dsimp only at hSw); go_simp; try with_reducible rfl
            simp only [Act.put, List.getElem_toArray, List.getElem_cons_succ, List.getElem_cons_zero, List.setIfInBounds_toArray, List.set_cons_succ, List.set_cons_zero]
            refine wpAnyH_take (i := 3) (v := ?vrc4) rfl (by kernel_rfl) (by kernel_rfl) (by kernel_rfl) (fun _ _ _ h => h) (Or.inl ⟨by rfl, ?hrc4⟩) (by assumption) ?rrc4
            case hrc4 => intro w hSw; (try dsimp only at hSw); go_simp; try with_reducible rfl
            simp only [Act.put, List.getElem_toArray, List.getElem_cons_succ, List.getElem_cons_zero, List.setIfInBounds_toArray, List.set_cons_succ, List.set_cons_zero]
            refine wpAnyH_take (i := 4) (v := ?vrc7) rfl (by kernel_rfl) (by kernel_rfl) (by kernel_rfl) (fun _ _ _ h => h) (Or.inl ⟨by rfl, ?hrc7⟩) (by assumption) ?rrc7
            case hrc7 => intro w hSw; (try dsimp only at hSw); go_simp; try with_reducible rfl
            simp only [Act.put, List.getElem_toArray, List.getElem_cons_succ, List.getElem_cons_zero, List.setIfInBounds_toArray, List.set_cons_succ, List.set_cons_zero]
            refine wpAnyH_ready (rs := [0, 5]) (by kernel_rfl) (by simp) ?_
            refine AllReadyH.cons rfl (fun K hK => ?_) (AllReadyH.cons rfl (fun K hK => ?_) AllReadyH.nil)
            · refine stepR_none (by rfl) (by rfl) ?_
              intro w0 hown0' hz0 hbx0
              have hown0 := own_lower hown0' HBD.out.size
              have hbT0 : Below wy.heap.size wy w0 := HBD.out.trans (hbx0.mono HBD.out.size)
              have hS0 := HKS.out _ hbT0
              refine hK.out _ _ (by first | (first | exact HKS.out _ HBD.out | exact hS0 | exact hS2 | exact hS5 | exact hS6) | ((try dsimp only); first | exact HKS.out _ HBD.out | exact hS0 | exact hS2 | exact hS5 | exact hS6)) (fun hHeld => ?_)
              clear hK K
              try simp only [Act.put, List.getElem_toArray, List.getElem_cons_succ, List.getElem_cons_zero, List.setIfInBounds_toArray, List.set_cons_succ, List.set_cons_zero]
              refine wpAnyH_ready (rs := [2, 5]) (by kernel_rfl) (by simp) ?_
              refine AllReadyH.cons rfl (fun K hK => ?_) (AllReadyH.cons rfl (fun K hK => ?_) AllReadyH.nil)
              · refine stepR_append (by rfl) (.tmp 62) (.tmp 63) (by rfl) wy.heap.size _ 0 [] (by rfl) hown0 ba bn bc bz (by rfl) (HBG.out.below hbT0 (Nat.le_refl _)) HBN.out bn (by omega) (by omega) hbT0.size ?_
                intro a2 c2 w2 hown2 hbx2 hgr2 _
                have hbT2 : Below wy.heap.size wy w2 := hbT0.trans hbx2
                have hS2 := HKS.out _ hbT2
                refine hK.out _ _ (by first | (first | exact HKS.out _ HBD.out | exact hS0 | exact hS2 | exact hS5 | exact hS6) | ((try dsimp only); first | exact HKS.out _ HBD.out | exact hS0 | exact hS2 | exact hS5 | exact hS6)) (fun hHeld => ?_)
                clear hK K
                try simp only [Act.put, List.getElem_toArray, List.getElem_cons_succ, List.getElem_cons_zero, List.setIfInBounds_toArray, List.set_cons_succ, List.set_cons_zero]
                refine wpAnyH_ready (rs := [5]) (by kernel_rfl) (by simp) ?_
                refine AllReadyH.cons rfl (fun K hK => ?_) AllReadyH.nil
                refine stepR_one (by rfl) (.tmp 66) s (by rfl) (by rfl) HWS.out ?_
                intro w5 hsl5 hz5 hbx5
                have hbT5 : Below wy.heap.size wy w5 := hbT2.trans (hbx5.mono hbT2.size)
                replace hown2 := ownsRow_below hown2 hbx5 (Nat.le_refl _)
                have hS5 := HKS.out _ hbT5
                refine hK.out _ _ (by first | (first | exact HKS.out _ HBD.out | exact hS0 | exact hS2 | exact hS5 | exact hS6) | ((try dsimp only); first | exact HKS.out _ HBD.out | exact hS0 | exact hS2 | exact hS5 | exact hS6)) (fun hHeld => ?_)
                clear hK K
                try simp only [Act.put, List.getElem_toArray, List.getElem_cons_succ, List.getElem_cons_zero, List.setIfInBounds_toArray, List.set_cons_succ, List.set_cons_zero]
                refine wpAnyH_ready (rs := [6]) (by kernel_rfl) (by simp) ?_
                refine AllReadyH.cons rfl (fun K hK => ?_) AllReadyH.nil
                refine stepR_append (by rfl) (.tmp 64) (.tmp 67) (by rfl) wy.heap.size _ bn ([] ++ bz) (by rfl) hown2 _ 1 1 [s] (by rfl) hsl5 (fun h => by cases h) (bn + 1) rfl (by omega) hbT5.size ?_
                intro a6 c6 w6 hown6 hbx6 _ hn6
                have hbT6 : Below wy.heap.size wy w6 := hbT5.trans hbx6
                have hS6 := HKS.out _ hbT6
                refine hK.out _ _ (by first | (first | exact HKS.out _ HBD.out | exact hS0 | exact hS2 | exact hS5 | exact hS6) | ((try dsimp only); first | exact HKS.out _ HBD.out | exact hS0 | exact hS2 | exact hS5 | exact hS6)) (fun hHeld => ?_)
                clear hK K
                try simp only [Act.put, List.getElem_toArray, List.getElem_cons_succ, List.getElem_cons_zero, List.setIfInBounds_toArray, List.set_cons_succ, List.set_cons_zero]
                refine wpAnyH_take (i := 7) (v := ?vrc48) rfl (by kernel_rfl) (by kernel_rfl) (by kernel_rfl) (fun _ _ _ h => h) (Or.inl ⟨by rfl, ?hrc48⟩) (by assumption) ?rrc48
                case hrc48 => intro w hSw; (try dsimp only at hSw); go_simp; try with_reducible rfl
                simp only [Act.put, List.getElem_toArray, List.getElem_cons_succ, List.getElem_cons_zero, List.setIfInBounds_toArray, List.set_cons_succ, List.set_cons_zero]
                refine wpAnyH_done (by kernel_rfl) ?_ _
                have HG6 : Hid (Sl .i64 w6 a6 (bn + 1) c6 ([] ++ bz ++ [s])) := Sl.of_owns hown6 (by
                  intro x hx
                  rcases List.mem_append.1 hx with hx | hx
                  · exact HBG.out.2.2.2.1 x (by simpa using hx)
                  · rw [List.mem_singleton.1 hx]; exact HWS.out) (by simp [HBG.out.1])
                have HN6 := Lib.hid hn6
                have HB6 := Lib.hid hbT6
                have hc6 := HG6.out.2.1
                have hc6' := HG6.out.2.2.1
                unfold maxLen at hc6'
                clear hown6 hn6
                obtain ⟨m, hm⟩ : ∃ m, min (bn + 1) fn = m := ⟨_, rfl⟩
                have hmI : min (((bn + 1 : Nat)) : Int) (fn : Int) = (m : Int) := by omega
                have hmI' : min ((bn : Int) + 1) (fn : Int) = (m : Int) := by omega
                have hm1 : m ≤ bn + 1 := by omega
                have hm2 : m ≤ fn := by omega
                have hm0 : (0 : Int) ≤ (m : Int) := by omega
                have hm3 : (m : Int) ≤ (c6 : Int) := by omega
                have hm4 : (m : Int) ≤ (fc : Int) := by omega
                have hmc : m ≤ c6 := by omega
                have hmf : m ≤ fc := by omega
                obtain ⟨g2, hg2⟩ : ∃ g2, lessL (([] ++ bz ++ [s]).take m) (fz.take m) = g2 := ⟨_, rfl⟩
                have HG2 := Lib.hid hg2
                have HMM : Hid (m = min (bz ++ [s]).length fz.length) := by show _ = _; rw [List.length_append, List.length_singleton, HBG.out.1, HFG.out.1]; exact hm.symm
                have HS1 : Hid (Sl .i64 w6 a6 m c6 (([] ++ bz ++ [s]).take m)) := HG6.out.cutR hm1
                have HS2 : Hid (Sl .i64 w6 fa m fc (fz.take m)) := (HFG.out.below HB6.out (Nat.le_refl _)).cutR hm2
                have HNX : Hid (bhdA l at_ (k + 1) bz fz = bhdA l at_ k bz fz ++ bhd l tn (bz ++ [s]) fz) := bhdA_next l at_ bz fz (by rw [HST.out]; show k < arcs.length; rw [HARS.out.1]; exact hkl) (by rw [HST.out]; exact HST2.out)
                have HM6 : Hid (Ml w.heap.size w6 oa L c outs) := HMY.out.below HB6.out
                have HWT : Hid (Below w.heap.size w w6) := HBW.out.trans (HB6.out.mono HBW.out.size)
                have hLN : L ≤ N := by rw [← HM.out.len, ← nums_length, HS.out, List.length_take]; exact Nat.min_le_left _ _
                have hc60 : w6.cell? ⟨wr.heap.size, 0, none⟩ = some (.int .i64 s) := hS6.1
                have hc61 : w6.cell? ⟨wr.heap.size, 1, none⟩ = some (.int .i64 (tn : Int)) := hS6.2
                have hc61' : ∀ q, (w6.drewN q).cell? ⟨wr.heap.size, 1, none⟩ = some (.int .i64 (tn : Int)) := fun _ => hS6.2
                clear hg2 hm hbT6 hHeld hS0 hS2 hS5 hS6
                cases g2
                · obtain ⟨M, hM⟩ : ∃ M, N - L = M := ⟨_, rfl⟩
                  have hmL : min (N : Int) (L : Int) = (L : Int) := by omega
                  have hsub : IntKind.i64.wrap ((N : Int) - (L : Int)) = (M : Int) := by rw [IntKind.wrap_i64]; omega
                  have HMN : Hid (M = N - min N L) := by show _ = _; omega
                  have hM3 : M ≤ 300 := by omega
                  have HLL : Hid (((bhdA l at_ k bz fz).take N).length = L) := by show _ = _; rw [← HS.out, nums_length]; exact HM.out.len
                  have htd : n - tn ≤ d := by omega
                  have hbt : bn + 1 ≤ tn := by omega
                  clear hM
                  go_wp2
                  go_quiet ((go_at_call 60; exact Calls.quiet_of (rless_is a6 fa m m c6 fc _ _ false _ (HS1.out.drewN _) (HS2.out.drewN _) HG2.out)))
                  go_wp2_with fail
                  refine (HIH.out tn htl3 htd _ a6 (bn + 1) c6 ([] ++ bz ++ [s]) M ((HXY.out.below HB6.out (Nat.le_refl _)).drawn ⟨_, rfl⟩) ((HCY.out.below HB6.out).drewN _) hcc (HG6.out.drewN _) HN6.out hbt ((HFG.out.below HB6.out (Nat.le_refl _)).drewN _) hM3).mono ?_
                  rintro e w7 ⟨a7, k7, c7, o7, rfl, m7, n7, b7⟩
                  have HB7 : Hid (Below w6.heap.size w6 w7) := (below_drewN (Below.refl _ _) _).trans b7
                  have HM7 : Hid (Ml w.heap.size w7 oa L c outs) := HM6.out.below HB7.out
                  have HO7 : Hid (Ml w.heap.size w7 a7 k7 c7 o7) := m7.lowerR HWT.out.size
                  have hk7 : k7 ≤ M := by rw [← m7.len, ← nums_length, n7, List.length_take]; exact Nat.min_le_left _ _
                  have HN7 := Lib.hid n7
                  have HW7 : Hid (Below w.heap.size w w7) := HWT.out.trans (HB7.out.mono HWT.out.size)
                  clear m7 n7 b7
                  go_wp2_with (at_builtin; refine append_words_w (by rfl) (.tmp 82) (.tmp 95) (by rfl) w.heap.size _ L outs (by rfl) HM7.out.row a7 k7 c7 o7 (by rfl) HO7.out.words HO7.out.nil (L + k7) rfl (by omega) HW7.out.size ?_; intro a8 c8 w8 hrow8 hb8 hg8 hn8; have HM8 := Lib.hid (HM7.out.app o7 HO7.out.own HO7.out.wfs HO7.out.lens HO7.out.len hrow8 hg8 hn8); have HB8 : Hid (Below w.heap.size w w8) := HW7.out.trans hb8; clear hrow8 hb8 hg8 hn8)
                  have HS8 : Hid (nums (outs ++ o7) = (bhdA l at_ (k + 1) bz fz).take N) := by
                    show _ = _
                    rw [HNX.out, take_on, HLL.out, ← HMN.out, nums_app, HS.out, HN7.out, List.nil_append]
                  go_roundw
                  case rel => exact ⟨k + 1, L + k7, c8, a8, outs ++ o7, by omega, rfl, by go_num, HM8.out, HS8.out, HB8.out⟩
                  case measure => simp [intOf]; omega
                · have HS8 : Hid (nums outs = (bhdA l at_ (k + 1) bz fz).take N) := by
                    show _ = _
                    rw [HNX.out, bhd_pass l tn (b := bz ++ [s]) (fr := fz) (by rw [← HMM.out]; have h := HG2.out; rw [List.nil_append] at h; exact h), List.append_nil]
                    exact HS.out
                  go_wp2
                  go_quiet ((go_at_call 60; exact Calls.quiet_of (rless_is a6 fa m m c6 fc _ _ true _ (HS1.out.drewN _) (HS2.out.drewN _) HG2.out)))
                  go_wp2
                  go_roundw
                  case rel => exact ⟨k + 1, L, c, oa, outs, by omega, rfl, by go_num, HM6.out.below (below_drewN (Below.refl _ _) _), HS8.out, below_drewN HWT.out _⟩
                  case measure => simp [intOf]; omega
                
              · refine stepR_one (by rfl) (.tmp 66) s (by rfl) (by rfl) HWS.out ?_
                intro w5 hsl5 hz5 hbx5
                have hbT5 : Below wy.heap.size wy w5 := hbT0.trans (hbx5.mono hbT0.size)
                replace hown0 := ownsRow_below hown0 hbx5 (Nat.le_refl _)
                have hS5 := HKS.out _ hbT5
                refine hK.out _ _ (by first | (first | exact HKS.out _ HBD.out | exact hS0 | exact hS2 | exact hS5 | exact hS6) | ((try dsimp only); first | exact HKS.out _ HBD.out | exact hS0 | exact hS2 | exact hS5 | exact hS6)) (fun hHeld => ?_)
                clear hK K
                try simp only [Act.put, List.getElem_toArray, List.getElem_cons_succ, List.getElem_cons_zero, List.setIfInBounds_toArray, List.set_cons_succ, List.set_cons_zero]
                refine wpAnyH_ready (rs := [2]) (by kernel_rfl) (by simp) ?_
                refine AllReadyH.cons rfl (fun K hK => ?_) AllReadyH.nil
                refine stepR_append (by rfl) (.tmp 62) (.tmp 63) (by rfl) wy.heap.size _ 0 [] (by rfl) hown0 ba bn bc bz (by rfl) (HBG.out.below hbT5 (Nat.le_refl _)) HBN.out bn (by omega) (by omega) hbT5.size ?_
                intro a2 c2 w2 hown2 hbx2 hgr2 _
                have hbT2 : Below wy.heap.size wy w2 := hbT5.trans hbx2
                replace hsl5 := hsl5.grownR hgr2 (by dsimp only; omega)
                have hS2 := HKS.out _ hbT2
                refine hK.out _ _ (by first | (first | exact HKS.out _ HBD.out | exact hS0 | exact hS2 | exact hS5 | exact hS6) | ((try dsimp only); first | exact HKS.out _ HBD.out | exact hS0 | exact hS2 | exact hS5 | exact hS6)) (fun hHeld => ?_)
                clear hK K
                try simp only [Act.put, List.getElem_toArray, List.getElem_cons_succ, List.getElem_cons_zero, List.setIfInBounds_toArray, List.set_cons_succ, List.set_cons_zero]
                refine wpAnyH_ready (rs := [6]) (by kernel_rfl) (by simp) ?_
                refine AllReadyH.cons rfl (fun K hK => ?_) AllReadyH.nil
                refine stepR_append (by rfl) (.tmp 64) (.tmp 67) (by rfl) wy.heap.size _ bn ([] ++ bz) (by rfl) hown2 _ 1 1 [s] (by rfl) hsl5 (fun h => by cases h) (bn + 1) rfl (by omega) hbT2.size ?_
                intro a6 c6 w6 hown6 hbx6 _ hn6
                have hbT6 : Below wy.heap.size wy w6 := hbT2.trans hbx6
                have hS6 := HKS.out _ hbT6
                refine hK.out _ _ (by first | (first | exact HKS.out _ HBD.out | exact hS0 | exact hS2 | exact hS5 | exact hS6) | ((try dsimp only); first | exact HKS.out _ HBD.out | exact hS0 | exact hS2 | exact hS5 | exact hS6)) (fun hHeld => ?_)
                clear hK K
                try simp only [Act.put, List.getElem_toArray, List.getElem_cons_succ, List.getElem_cons_zero, List.setIfInBounds_toArray, List.set_cons_succ, List.set_cons_zero]
                refine wpAnyH_take (i := 7) (v := ?vrc153) rfl (by kernel_rfl) (by kernel_rfl) (by kernel_rfl) (fun _ _ _ h => h) (Or.inl ⟨by rfl, ?hrc153⟩) (by assumption) ?rrc153
                case hrc153 => intro w hSw; (try dsimp only at hSw); go_simp; try with_reducible rfl
                simp only [Act.put, List.getElem_toArray, List.getElem_cons_succ, List.getElem_cons_zero, List.setIfInBounds_toArray, List.set_cons_succ, List.set_cons_zero]
                refine wpAnyH_done (by kernel_rfl) ?_ _
                have HG6 : Hid (Sl .i64 w6 a6 (bn + 1) c6 ([] ++ bz ++ [s])) := Sl.of_owns hown6 (by
                  intro x hx
                  rcases List.mem_append.1 hx with hx | hx
                  · exact HBG.out.2.2.2.1 x (by simpa using hx)
                  · rw [List.mem_singleton.1 hx]; exact HWS.out) (by simp [HBG.out.1])
                have HN6 := Lib.hid hn6
                have HB6 := Lib.hid hbT6
                have hc6 := HG6.out.2.1
                have hc6' := HG6.out.2.2.1
                unfold maxLen at hc6'
                clear hown6 hn6
                obtain ⟨m, hm⟩ : ∃ m, min (bn + 1) fn = m := ⟨_, rfl⟩
                have hmI : min (((bn + 1 : Nat)) : Int) (fn : Int) = (m : Int) := by omega
                have hmI' : min ((bn : Int) + 1) (fn : Int) = (m : Int) := by omega
                have hm1 : m ≤ bn + 1 := by omega
                have hm2 : m ≤ fn := by omega
                have hm0 : (0 : Int) ≤ (m : Int) := by omega
                have hm3 : (m : Int) ≤ (c6 : Int) := by omega
                have hm4 : (m : Int) ≤ (fc : Int) := by omega
                have hmc : m ≤ c6 := by omega
                have hmf : m ≤ fc := by omega
                obtain ⟨g2, hg2⟩ : ∃ g2, lessL (([] ++ bz ++ [s]).take m) (fz.take m) = g2 := ⟨_, rfl⟩
                have HG2 := Lib.hid hg2
                have HMM : Hid (m = min (bz ++ [s]).length fz.length) := by show _ = _; rw [List.length_append, List.length_singleton, HBG.out.1, HFG.out.1]; exact hm.symm
                have HS1 : Hid (Sl .i64 w6 a6 m c6 (([] ++ bz ++ [s]).take m)) := HG6.out.cutR hm1
                have HS2 : Hid (Sl .i64 w6 fa m fc (fz.take m)) := (HFG.out.below HB6.out (Nat.le_refl _)).cutR hm2
                have HNX : Hid (bhdA l at_ (k + 1) bz fz = bhdA l at_ k bz fz ++ bhd l tn (bz ++ [s]) fz) := bhdA_next l at_ bz fz (by rw [HST.out]; show k < arcs.length; rw [HARS.out.1]; exact hkl) (by rw [HST.out]; exact HST2.out)
                have HM6 : Hid (Ml w.heap.size w6 oa L c outs) := HMY.out.below HB6.out
                have HWT : Hid (Below w.heap.size w w6) := HBW.out.trans (HB6.out.mono HBW.out.size)
                have hLN : L ≤ N := by rw [← HM.out.len, ← nums_length, HS.out, List.length_take]; exact Nat.min_le_left _ _
                have hc60 : w6.cell? ⟨wr.heap.size, 0, none⟩ = some (.int .i64 s) := hS6.1
                have hc61 : w6.cell? ⟨wr.heap.size, 1, none⟩ = some (.int .i64 (tn : Int)) := hS6.2
                have hc61' : ∀ q, (w6.drewN q).cell? ⟨wr.heap.size, 1, none⟩ = some (.int .i64 (tn : Int)) := fun _ => hS6.2
                clear hg2 hm hbT6 hHeld hS0 hS2 hS5 hS6
                cases g2
                · obtain ⟨M, hM⟩ : ∃ M, N - L = M := ⟨_, rfl⟩
                  have hmL : min (N : Int) (L : Int) = (L : Int) := by omega
                  have hsub : IntKind.i64.wrap ((N : Int) - (L : Int)) = (M : Int) := by rw [IntKind.wrap_i64]; omega
                  have HMN : Hid (M = N - min N L) := by show _ = _; omega
                  have hM3 : M ≤ 300 := by omega
                  have HLL : Hid (((bhdA l at_ k bz fz).take N).length = L) := by show _ = _; rw [← HS.out, nums_length]; exact HM.out.len
                  have htd : n - tn ≤ d := by omega
                  have hbt : bn + 1 ≤ tn := by omega
                  clear hM
                  go_wp2
                  go_quiet ((go_at_call 60; exact Calls.quiet_of (rless_is a6 fa m m c6 fc _ _ false _ (HS1.out.drewN _) (HS2.out.drewN _) HG2.out)))
                  go_wp2_with fail
                  refine (HIH.out tn htl3 htd _ a6 (bn + 1) c6 ([] ++ bz ++ [s]) M ((HXY.out.below HB6.out (Nat.le_refl _)).drawn ⟨_, rfl⟩) ((HCY.out.below HB6.out).drewN _) hcc (HG6.out.drewN _) HN6.out hbt ((HFG.out.below HB6.out (Nat.le_refl _)).drewN _) hM3).mono ?_
                  rintro e w7 ⟨a7, k7, c7, o7, rfl, m7, n7, b7⟩
                  have HB7 : Hid (Below w6.heap.size w6 w7) := (below_drewN (Below.refl _ _) _).trans b7
                  have HM7 : Hid (Ml w.heap.size w7 oa L c outs) := HM6.out.below HB7.out
                  have HO7 : Hid (Ml w.heap.size w7 a7 k7 c7 o7) := m7.lowerR HWT.out.size
                  have hk7 : k7 ≤ M := by rw [← m7.len, ← nums_length, n7, List.length_take]; exact Nat.min_le_left _ _
                  have HN7 := Lib.hid n7
                  have HW7 : Hid (Below w.heap.size w w7) := HWT.out.trans (HB7.out.mono HWT.out.size)
                  clear m7 n7 b7
                  go_wp2_with (at_builtin; refine append_words_w (by rfl) (.tmp 82) (.tmp 95) (by rfl) w.heap.size _ L outs (by rfl) HM7.out.row a7 k7 c7 o7 (by rfl) HO7.out.words HO7.out.nil (L + k7) rfl (by omega) HW7.out.size ?_; intro a8 c8 w8 hrow8 hb8 hg8 hn8; have HM8 := Lib.hid (HM7.out.app o7 HO7.out.own HO7.out.wfs HO7.out.lens HO7.out.len hrow8 hg8 hn8); have HB8 : Hid (Below w.heap.size w w8) := HW7.out.trans hb8; clear hrow8 hb8 hg8 hn8)
                  have HS8 : Hid (nums (outs ++ o7) = (bhdA l at_ (k + 1) bz fz).take N) := by
                    show _ = _
                    rw [HNX.out, take_on, HLL.out, ← HMN.out, nums_app, HS.out, HN7.out, List.nil_append]
                  go_roundw
                  case rel => exact ⟨k + 1, L + k7, c8, a8, outs ++ o7, by omega, rfl, by go_num, HM8.out, HS8.out, HB8.out⟩
                  case measure => simp [intOf]; omega
                · have HS8 : Hid (nums outs = (bhdA l at_ (k + 1) bz fz).take N) := by
                    show _ = _
                    rw [HNX.out, bhd_pass l tn (b := bz ++ [s]) (fr := fz) (by rw [← HMM.out]; have h := HG2.out; rw [List.nil_append] at h; exact h), List.append_nil]
                    exact HS.out
                  go_wp2
                  go_quiet ((go_at_call 60; exact Calls.quiet_of (rless_is a6 fa m m c6 fc _ _ true _ (HS1.out.drewN _) (HS2.out.drewN _) HG2.out)))
                  go_wp2
                  go_roundw
                  case rel => exact ⟨k + 1, L, c, oa, outs, by omega, rfl, by go_num, HM6.out.below (below_drewN (Below.refl _ _) _), HS8.out, below_drewN HWT.out _⟩
                  case measure => simp [intOf]; omega
                
            · refine stepR_one (by rfl) (.tmp 66) s (by rfl) (by rfl) HWS.out ?_
              intro w5 hsl5 hz5 hbx5
              have hbT5 : Below wy.heap.size wy w5 := HBD.out.trans (hbx5.mono HBD.out.size)
              have hS5 := HKS.out _ hbT5
              refine hK.out _ _ (by first | (first | exact HKS.out _ HBD.out | exact hS0 | exact hS2 | exact hS5 | exact hS6) | ((try dsimp only); first | exact HKS.out _ HBD.out | exact hS0 | exact hS2 | exact hS5 | exact hS6)) (fun hHeld => ?_)
              clear hK K
              try simp only [Act.put, List.getElem_toArray, List.getElem_cons_succ, List.getElem_cons_zero, List.setIfInBounds_toArray, List.set_cons_succ, List.set_cons_zero]
              refine wpAnyH_ready (rs := [0]) (by kernel_rfl) (by simp) ?_
              refine AllReadyH.cons rfl (fun K hK => ?_) AllReadyH.nil
              refine stepR_none (by rfl) (by rfl) ?_
              intro w0 hown0' hz0 hbx0
              have hown0 := own_lower hown0' hbT5.size
              have hbT0 : Below wy.heap.size wy w0 := hbT5.trans (hbx0.mono hbT5.size)
              replace hsl5 := hsl5.below hbx0 (Nat.le_refl _)
              have hS0 := HKS.out _ hbT0
              refine hK.out _ _ (by first | (first | exact HKS.out _ HBD.out | exact hS0 | exact hS2 | exact hS5 | exact hS6) | ((try dsimp only); first | exact HKS.out _ HBD.out | exact hS0 | exact hS2 | exact hS5 | exact hS6)) (fun hHeld => ?_)
              clear hK K
              try simp only [Act.put, List.getElem_toArray, List.getElem_cons_succ, List.getElem_cons_zero, List.setIfInBounds_toArray, List.set_cons_succ, List.set_cons_zero]
              refine wpAnyH_ready (rs := [2]) (by kernel_rfl) (by simp) ?_
              refine AllReadyH.cons rfl (fun K hK => ?_) AllReadyH.nil
              refine stepR_append (by rfl) (.tmp 62) (.tmp 63) (by rfl) wy.heap.size _ 0 [] (by rfl) hown0 ba bn bc bz (by rfl) (HBG.out.below hbT0 (Nat.le_refl _)) HBN.out bn (by omega) (by omega) hbT0.size ?_
              intro a2 c2 w2 hown2 hbx2 hgr2 _
              have hbT2 : Below wy.heap.size wy w2 := hbT0.trans hbx2
              replace hsl5 := hsl5.grownR hgr2 (by dsimp only; omega)
              have hS2 := HKS.out _ hbT2
              refine hK.out _ _ (by first | (first | exact HKS.out _ HBD.out | exact hS0 | exact hS2 | exact hS5 | exact hS6) | ((try dsimp only); first | exact HKS.out _ HBD.out | exact hS0 | exact hS2 | exact hS5 | exact hS6)) (fun hHeld => ?_)
              clear hK K
              try simp only [Act.put, List.getElem_toArray, List.getElem_cons_succ, List.getElem_cons_zero, List.setIfInBounds_toArray, List.set_cons_succ, List.set_cons_zero]
              refine wpAnyH_ready (rs := [6]) (by kernel_rfl) (by simp) ?_
              refine AllReadyH.cons rfl (fun K hK => ?_) AllReadyH.nil
              refine stepR_append (by rfl) (.tmp 64) (.tmp 67) (by rfl) wy.heap.size _ bn ([] ++ bz) (by rfl) hown2 _ 1 1 [s] (by rfl) hsl5 (fun h => by cases h) (bn + 1) rfl (by omega) hbT2.size ?_
              intro a6 c6 w6 hown6 hbx6 _ hn6
              have hbT6 : Below wy.heap.size wy w6 := hbT2.trans hbx6
              have hS6 := HKS.out _ hbT6
              refine hK.out _ _ (by first | (first | exact HKS.out _ HBD.out | exact hS0 | exact hS2 | exact hS5 | exact hS6) | ((try dsimp only); first | exact HKS.out _ HBD.out | exact hS0 | exact hS2 | exact hS5 | exact hS6)) (fun hHeld => ?_)
              clear hK K
              try simp only [Act.put, List.getElem_toArray, List.getElem_cons_succ, List.getElem_cons_zero, List.setIfInBounds_toArray, List.set_cons_succ, List.set_cons_zero]
              refine wpAnyH_take (i := 7) (v := ?vrc268) rfl (by kernel_rfl) (by kernel_rfl) (by kernel_rfl) (fun _ _ _ h => h) (Or.inl ⟨by rfl, ?hrc268⟩) (by assumption) ?rrc268
              case hrc268 => intro w hSw; (try dsimp only at hSw); go_simp; try with_reducible rfl
              simp only [Act.put, List.getElem_toArray, List.getElem_cons_succ, List.getElem_cons_zero, List.setIfInBounds_toArray, List.set_cons_succ, List.set_cons_zero]
              refine wpAnyH_done (by kernel_rfl) ?_ _
              have HG6 : Hid (Sl .i64 w6 a6 (bn + 1) c6 ([] ++ bz ++ [s])) := Sl.of_owns hown6 (by
                intro x hx
                rcases List.mem_append.1 hx with hx | hx
                · exact HBG.out.2.2.2.1 x (by simpa using hx)
                · rw [List.mem_singleton.1 hx]; exact HWS.out) (by simp [HBG.out.1])
              have HN6 := Lib.hid hn6
              have HB6 := Lib.hid hbT6
              have hc6 := HG6.out.2.1
              have hc6' := HG6.out.2.2.1
              unfold maxLen at hc6'
              clear hown6 hn6
              obtain ⟨m, hm⟩ : ∃ m, min (bn + 1) fn = m := ⟨_, rfl⟩
              have hmI : min (((bn + 1 : Nat)) : Int) (fn : Int) = (m : Int) := by omega
              have hmI' : min ((bn : Int) + 1) (fn : Int) = (m : Int) := by omega
              have hm1 : m ≤ bn + 1 := by omega
              have hm2 : m ≤ fn := by omega
              have hm0 : (0 : Int) ≤ (m : Int) := by omega
              have hm3 : (m : Int) ≤ (c6 : Int) := by omega
              have hm4 : (m : Int) ≤ (fc : Int) := by omega
              have hmc : m ≤ c6 := by omega
              have hmf : m ≤ fc := by omega
              obtain ⟨g2, hg2⟩ : ∃ g2, lessL (([] ++ bz ++ [s]).take m) (fz.take m) = g2 := ⟨_, rfl⟩
              have HG2 := Lib.hid hg2
              have HMM : Hid (m = min (bz ++ [s]).length fz.length) := by show _ = _; rw [List.length_append, List.length_singleton, HBG.out.1, HFG.out.1]; exact hm.symm
              have HS1 : Hid (Sl .i64 w6 a6 m c6 (([] ++ bz ++ [s]).take m)) := HG6.out.cutR hm1
              have HS2 : Hid (Sl .i64 w6 fa m fc (fz.take m)) := (HFG.out.below HB6.out (Nat.le_refl _)).cutR hm2
              have HNX : Hid (bhdA l at_ (k + 1) bz fz = bhdA l at_ k bz fz ++ bhd l tn (bz ++ [s]) fz) := bhdA_next l at_ bz fz (by rw [HST.out]; show k < arcs.length; rw [HARS.out.1]; exact hkl) (by rw [HST.out]; exact HST2.out)
              have HM6 : Hid (Ml w.heap.size w6 oa L c outs) := HMY.out.below HB6.out
              have HWT : Hid (Below w.heap.size w w6) := HBW.out.trans (HB6.out.mono HBW.out.size)
              have hLN : L ≤ N := by rw [← HM.out.len, ← nums_length, HS.out, List.length_take]; exact Nat.min_le_left _ _
              have hc60 : w6.cell? ⟨wr.heap.size, 0, none⟩ = some (.int .i64 s) := hS6.1
              have hc61 : w6.cell? ⟨wr.heap.size, 1, none⟩ = some (.int .i64 (tn : Int)) := hS6.2
              have hc61' : ∀ q, (w6.drewN q).cell? ⟨wr.heap.size, 1, none⟩ = some (.int .i64 (tn : Int)) := fun _ => hS6.2
              clear hg2 hm hbT6 hHeld hS0 hS2 hS5 hS6
              cases g2
              · obtain ⟨M, hM⟩ : ∃ M, N - L = M := ⟨_, rfl⟩
                have hmL : min (N : Int) (L : Int) = (L : Int) := by omega
                have hsub : IntKind.i64.wrap ((N : Int) - (L : Int)) = (M : Int) := by rw [IntKind.wrap_i64]; omega
                have HMN : Hid (M = N - min N L) := by show _ = _; omega
                have hM3 : M ≤ 300 := by omega
                have HLL : Hid (((bhdA l at_ k bz fz).take N).length = L) := by show _ = _; rw [← HS.out, nums_length]; exact HM.out.len
                have htd : n - tn ≤ d := by omega
                have hbt : bn + 1 ≤ tn := by omega
                clear hM
                go_wp2
                go_quiet ((go_at_call 60; exact Calls.quiet_of (rless_is a6 fa m m c6 fc _ _ false _ (HS1.out.drewN _) (HS2.out.drewN _) HG2.out)))
                go_wp2_with fail
                refine (HIH.out tn htl3 htd _ a6 (bn + 1) c6 ([] ++ bz ++ [s]) M ((HXY.out.below HB6.out (Nat.le_refl _)).drawn ⟨_, rfl⟩) ((HCY.out.below HB6.out).drewN _) hcc (HG6.out.drewN _) HN6.out hbt ((HFG.out.below HB6.out (Nat.le_refl _)).drewN _) hM3).mono ?_
                rintro e w7 ⟨a7, k7, c7, o7, rfl, m7, n7, b7⟩
                have HB7 : Hid (Below w6.heap.size w6 w7) := (below_drewN (Below.refl _ _) _).trans b7
                have HM7 : Hid (Ml w.heap.size w7 oa L c outs) := HM6.out.below HB7.out
                have HO7 : Hid (Ml w.heap.size w7 a7 k7 c7 o7) := m7.lowerR HWT.out.size
                have hk7 : k7 ≤ M := by rw [← m7.len, ← nums_length, n7, List.length_take]; exact Nat.min_le_left _ _
                have HN7 := Lib.hid n7
                have HW7 : Hid (Below w.heap.size w w7) := HWT.out.trans (HB7.out.mono HWT.out.size)
                clear m7 n7 b7
                go_wp2_with (at_builtin; refine append_words_w (by rfl) (.tmp 82) (.tmp 95) (by rfl) w.heap.size _ L outs (by rfl) HM7.out.row a7 k7 c7 o7 (by rfl) HO7.out.words HO7.out.nil (L + k7) rfl (by omega) HW7.out.size ?_; intro a8 c8 w8 hrow8 hb8 hg8 hn8; have HM8 := Lib.hid (HM7.out.app o7 HO7.out.own HO7.out.wfs HO7.out.lens HO7.out.len hrow8 hg8 hn8); have HB8 : Hid (Below w.heap.size w w8) := HW7.out.trans hb8; clear hrow8 hb8 hg8 hn8)
                have HS8 : Hid (nums (outs ++ o7) = (bhdA l at_ (k + 1) bz fz).take N) := by
                  show _ = _
                  rw [HNX.out, take_on, HLL.out, ← HMN.out, nums_app, HS.out, HN7.out, List.nil_append]
                go_roundw
                case rel => exact ⟨k + 1, L + k7, c8, a8, outs ++ o7, by omega, rfl, by go_num, HM8.out, HS8.out, HB8.out⟩
                case measure => simp [intOf]; omega
              · have HS8 : Hid (nums outs = (bhdA l at_ (k + 1) bz fz).take N) := by
                  show _ = _
                  rw [HNX.out, bhd_pass l tn (b := bz ++ [s]) (fr := fz) (by rw [← HMM.out]; have h := HG2.out; rw [List.nil_append] at h; exact h), List.append_nil]
                  exact HS.out
                go_wp2
                go_quiet ((go_at_call 60; exact Calls.quiet_of (rless_is a6 fa m m c6 fc _ _ true _ (HS1.out.drewN _) (HS2.out.drewN _) HG2.out)))
                go_wp2
                go_roundw
                case rel => exact ⟨k + 1, L, c, oa, outs, by omega, rfl, by go_num, HM6.out.below (below_drewN (Below.refl _ _) _), HS8.out, below_drewN HWT.out _⟩
                case measure => simp [intOf]; omega
              
          · obtain rfl : sn = k := by omega
            have HE : Hid (nums outs = (bhd l at_ bz fz).take N) := by
              show _ = _
              rw [HS.out, ← bhdA_all hc (by rw [HLN.out]; exact hat), HST.out]
              show _ = List.take N (bhdA l at_ arcs.length bz fz)
              rw [HARS.out.1]
            have hLN : L ≤ N := by rw [← HM.out.len, ← nums_length, HS.out, List.length_take]; exact Nat.min_le_left _ _
            have hmL : min (N : Int) (L : Int) = (L : Int) := by omega
            have hLc : L ≤ c := HM.out.words.2.1
            have hcm := HM.out.words.2.2.1
            unfold maxLen at hcm
            have hL1 : (0 : Int) ≤ (L : Int) := by omega
            have hL2 : (L : Int) ≤ (c : Int) := by omega
            go_wp2
            go_ret
            exact ⟨_, _, _, outs, rfl, HM.out, HE.out, HB.out⟩
      · have HS0 : Hid (nums [] = (bhdA l at_ 0 bz fz).take N) := by show _ = _; rw [bhdA_zero l at_ bz fz (by rw [HST.out]) HG.out]; simp [nums]
        go_enter Try.func32, Try.ntmps32
        go_wp2_with fail
        refine (rless_is ba fa bn fn bc fc bz fz true _ HBG0.out HFG0.out HG.out).mono ?_
        rintro e w1 ⟨rfl, q1⟩
        have HM0 := Lib.hid (Ml.start w.heap.size w1)
        have HB0 : Hid (Below w.heap.size w w1) := below_drawn (Below.refl _ _) q1
        clear q1
        go_wp2
        go_loopw [13, 14] (fun ov ix wr => ∃ (k L c : Nat) (oa : Option Addr) (outs : List Wd), k ≤ sn ∧ ov = .slice oa L c ∧ ix = .int .i64 (k : Int) ∧ Hid (Ml w.heap.size wr oa L c outs) ∧ Hid (nums outs = (bhdA l at_ k bz fz).take N) ∧ Hid (Below w.heap.size w wr)) (fun _ ix _ => sn - (intOf ix).toNat)
        case atStart => exact ⟨0, _, _, _, _, Nat.zero_le _, rfl, rfl, HM0.out, HS0.out, HB0.out⟩
        case round =>
          obtain ⟨k, L, c, oa, outs, hk, rfl, rfl, HM, HS, HB⟩ := hrel
          have hc2 : wr.cell? ⟨b1, o1 + at_ * 2 + 1, none⟩ = some (.slice sa sn sc) := by
            rw [HB.out.cell (p := ⟨b1, o1 + at_ * 2 + 1, none⟩) HBL.out]; exact HCS.out
          by_cases hkl : k < sn
          · obtain ⟨b2, o2, s, t, rfl, hb2, hy0, hy1, hws, hwt, hst⟩ := HARS.out.one k hkl
            have hy0' : wr.cell? ⟨b2, o2 + k * 2, none⟩ = some (.int .i64 s) := by
              rw [HB.out.cell (p := ⟨b2, o2 + k * 2, none⟩) hb2]; exact hy0
            have hy1' : wr.cell? ⟨b2, o2 + k * 2 + 1, none⟩ = some (.int .i64 t) := by
              rw [HB.out.cell (p := ⟨b2, o2 + k * 2 + 1, none⟩) hb2]; exact hy1
            obtain ⟨htl, htn⟩ := HUP.out k hkl hst
            obtain ⟨tn, rfl⟩ : ∃ m : Nat, t = (m : Int) := ⟨t.toNat, by omega⟩
            have htl3 : tn < n := by omega
            have HWS := Lib.hid hws
            have HST2 := Lib.hid hst
            have hkli : (k : Int) < (sn : Int) := by omega
            have hk0 : (0 : Int) ≤ (k : Int) := by omega
            obtain ⟨wy, hwy⟩ : ∃ W, W = wr.alloc (.cells #[.int .i64 s, .int .i64 (tn : Int)] 59) := ⟨_, rfl⟩
            have hBY : Below wr.heap.size wr wy := by rw [hwy]; exact (Below.refl _ wr).alloc (Nat.le_refl _) _
            have hBW : Below w.heap.size w wy := HB.out.trans (hBY.mono HB.out.size)
            have hcy : wy.cell? ⟨wr.heap.size, 0, none⟩ = some (.int .i64 s) ∧ wy.cell? ⟨wr.heap.size, 1, none⟩ = some (.int .i64 (tn : Int)) := by
              rw [hwy]; exact ⟨by rw [cell_of_obj (heap_alloc_new wr _)]; rfl, by rw [cell_of_obj (heap_alloc_new wr _)]; rfl⟩
            have hsy : wr.heap.size < wy.heap.size := by rw [hwy, size_alloc]; omega
            have HKS : Hid (∀ W, Below wy.heap.size wy W → W.cell? ⟨wr.heap.size, 0, none⟩ = some (.int .i64 s) ∧ W.cell? ⟨wr.heap.size, 1, none⟩ = some (.int .i64 (tn : Int))) := Lib.hid fun W hW => ⟨by rw [hW.cell (p := ⟨wr.heap.size, 0, none⟩) hsy]; exact hcy.1, by rw [hW.cell (p := ⟨wr.heap.size, 1, none⟩) hsy]; exact hcy.2⟩
            have HBD : Hid (Below wy.heap.size wy wy.drew) := below_drawn (Below.refl _ _) ⟨1, rfl⟩
            have HBG : Hid (Sl .i64 wy ba bn bc bz) := HBG0.out.below hBW (Nat.le_refl _)
            have HFG : Hid (Sl .i64 wy fa fn fc fz) := HFG0.out.below hBW (Nat.le_refl _)
            have HXY : Hid (Ss wy _ n cap xs) := HX.out.below hBW (Nat.le_refl _)
            have HCY : Hid (CntAt wy cg n l) := HCN.out.below hBW
            have HMY : Hid (Ml w.heap.size wy oa L c outs) := HM.out.below hBY
            have HBW := Lib.hid hBW
            have HWY := Lib.hid hwy
            clear hb2 hy0 hy1 hws hwt hst hcy hBW hBY hwy
            go_wp2
            rw [← HWY.out]
            clear HWY
            refine wp_region_held_drew (S := (fun W => W.cell? ⟨wr.heap.size, 0, none⟩ = some (.int .i64 s) ∧ W.cell? ⟨wr.heap.size, 1, none⟩ = some (.int .i64 (tn : Int)))) (by kernel_rfl) (by first | (first | exact HKS.out _ HBD.out | exact hS0 | exact hS2 | exact hS5 | exact hS6) | ((try dsimp only); first | exact HKS.out _ HBD.out | exact hS0 | exact hS2 | exact hS5 | exact hS6)) (fun hHeld => ?_)
            refine wpAnyH_take (i := 1) (v := ?vrd1) rfl (by kernel_rfl) (by kernel_rfl) (by kernel_rfl) (fun _ _ _ h => h) (Or.inl ⟨by rfl, ?hrd1⟩) (by assumption) ?rrd1
            case hrd1 => intro w hSw; (try dsimp only at hSw); go_simp; try with_reducible rfl
            simp only [Act.put, List.getElem_toArray, List.getElem_cons_succ, List.getElem_cons_zero, List.setIfInBounds_toArray, List.set_cons_succ, List.set_cons_zero]
            refine wpAnyH_take (i := 3) (v := ?vrd4) rfl (by kernel_rfl) (by kernel_rfl) (by kernel_rfl) (fun _ _ _ h => h) (Or.inl ⟨by rfl, ?hrd4⟩) (by assumption) ?rrd4
            case hrd4 => intro w hSw; (try dsimp only at hSw); go_simp; try with_reducible rfl
            simp only [Act.put, List.getElem_toArray, List.getElem_cons_succ, List.getElem_cons_zero, List.setIfInBounds_toArray, List.set_cons_succ, List.set_cons_zero]
            refine wpAnyH_take (i := 4) (v := ?vrd7) rfl (by kernel_rfl) (by kernel_rfl) (by kernel_rfl) (fun _ _ _ h => h) (Or.inl ⟨by rfl, ?hrd7⟩) (by assumption) ?rrd7
            case hrd7 => intro w hSw; (try dsimp only at hSw); go_simp; try with_reducible rfl
            simp only [Act.put, List.getElem_toArray, List.getElem_cons_succ, List.getElem_cons_zero, List.setIfInBounds_toArray, List.set_cons_succ, List.set_cons_zero]
            refine wpAnyH_ready (rs := [0, 5]) (by kernel_rfl) (by simp) ?_
            refine AllReadyH.cons rfl (fun K hK => ?_) (AllReadyH.cons rfl (fun K hK => ?_) AllReadyH.nil)
            · refine stepR_none (by rfl) (by rfl) ?_
              intro w0 hown0' hz0 hbx0
              have hown0 := own_lower hown0' HBD.out.size
              have hbT0 : Below wy.heap.size wy w0 := HBD.out.trans (hbx0.mono HBD.out.size)
              have hS0 := HKS.out _ hbT0
              refine hK.out _ _ (by first | (first | exact HKS.out _ HBD.out | exact hS0 | exact hS2 | exact hS5 | exact hS6) | ((try dsimp only); first | exact HKS.out _ HBD.out | exact hS0 | exact hS2 | exact hS5 | exact hS6)) (fun hHeld => ?_)
              clear hK K
              try simp only [Act.put, List.getElem_toArray, List.getElem_cons_succ, List.getElem_cons_zero, List.setIfInBounds_toArray, List.set_cons_succ, List.set_cons_zero]
              refine wpAnyH_ready (rs := [2, 5]) (by kernel_rfl) (by simp) ?_
              refine AllReadyH.cons rfl (fun K hK => ?_) (AllReadyH.cons rfl (fun K hK => ?_) AllReadyH.nil)
              · refine stepR_append (by rfl) (.tmp 62) (.tmp 63) (by rfl) wy.heap.size _ 0 [] (by rfl) hown0 ba bn bc bz (by rfl) (HBG.out.below hbT0 (Nat.le_refl _)) HBN.out bn (by omega) (by omega) hbT0.size ?_
                intro a2 c2 w2 hown2 hbx2 hgr2 _
                have hbT2 : Below wy.heap.size wy w2 := hbT0.trans hbx2
                have hS2 := HKS.out _ hbT2
                refine hK.out _ _ (by first | (first | exact HKS.out _ HBD.out | exact hS0 | exact hS2 | exact hS5 | exact hS6) | ((try dsimp only); first | exact HKS.out _ HBD.out | exact hS0 | exact hS2 | exact hS5 | exact hS6)) (fun hHeld => ?_)
                clear hK K
                try simp only [Act.put, List.getElem_toArray, List.getElem_cons_succ, List.getElem_cons_zero, List.setIfInBounds_toArray, List.set_cons_succ, List.set_cons_zero]
                refine wpAnyH_ready (rs := [5]) (by kernel_rfl) (by simp) ?_
                refine AllReadyH.cons rfl (fun K hK => ?_) AllReadyH.nil
                refine stepR_one (by rfl) (.tmp 66) s (by rfl) (by rfl) HWS.out ?_
                intro w5 hsl5 hz5 hbx5
                have hbT5 : Below wy.heap.size wy w5 := hbT2.trans (hbx5.mono hbT2.size)
                replace hown2 := ownsRow_below hown2 hbx5 (Nat.le_refl _)
                have hS5 := HKS.out _ hbT5
                refine hK.out _ _ (by first | (first | exact HKS.out _ HBD.out | exact hS0 | exact hS2 | exact hS5 | exact hS6) | ((try dsimp only); first | exact HKS.out _ HBD.out | exact hS0 | exact hS2 | exact hS5 | exact hS6)) (fun hHeld => ?_)
                clear hK K
                try simp only [Act.put, List.getElem_toArray, List.getElem_cons_succ, List.getElem_cons_zero, List.setIfInBounds_toArray, List.set_cons_succ, List.set_cons_zero]
                refine wpAnyH_ready (rs := [6]) (by kernel_rfl) (by simp) ?_
                refine AllReadyH.cons rfl (fun K hK => ?_) AllReadyH.nil
                refine stepR_append (by rfl) (.tmp 64) (.tmp 67) (by rfl) wy.heap.size _ bn ([] ++ bz) (by rfl) hown2 _ 1 1 [s] (by rfl) hsl5 (fun h => by cases h) (bn + 1) rfl (by omega) hbT5.size ?_
                intro a6 c6 w6 hown6 hbx6 _ hn6
                have hbT6 : Below wy.heap.size wy w6 := hbT5.trans hbx6
                have hS6 := HKS.out _ hbT6
                refine hK.out _ _ (by first | (first | exact HKS.out _ HBD.out | exact hS0 | exact hS2 | exact hS5 | exact hS6) | ((try dsimp only); first | exact HKS.out _ HBD.out | exact hS0 | exact hS2 | exact hS5 | exact hS6)) (fun hHeld => ?_)
                clear hK K
                try simp only [Act.put, List.getElem_toArray, List.getElem_cons_succ, List.getElem_cons_zero, List.setIfInBounds_toArray, List.set_cons_succ, List.set_cons_zero]
                refine wpAnyH_take (i := 7) (v := ?vrd48) rfl (by kernel_rfl) (by kernel_rfl) (by kernel_rfl) (fun _ _ _ h => h) (Or.inl ⟨by rfl, ?hrd48⟩) (by assumption) ?rrd48
                case hrd48 => intro w hSw; (try dsimp only at hSw); go_simp; try with_reducible rfl
                simp only [Act.put, List.getElem_toArray, List.getElem_cons_succ, List.getElem_cons_zero, List.setIfInBounds_toArray, List.set_cons_succ, List.set_cons_zero]
                refine wpAnyH_done (by kernel_rfl) ?_ _
                have HG6 : Hid (Sl .i64 w6 a6 (bn + 1) c6 ([] ++ bz ++ [s])) := Sl.of_owns hown6 (by
                  intro x hx
                  rcases List.mem_append.1 hx with hx | hx
                  · exact HBG.out.2.2.2.1 x (by simpa using hx)
                  · rw [List.mem_singleton.1 hx]; exact HWS.out) (by simp [HBG.out.1])
                have HN6 := Lib.hid hn6
                have HB6 := Lib.hid hbT6
                have hc6 := HG6.out.2.1
                have hc6' := HG6.out.2.2.1
                unfold maxLen at hc6'
                clear hown6 hn6
                obtain ⟨m, hm⟩ : ∃ m, min (bn + 1) fn = m := ⟨_, rfl⟩
                have hmI : min (((bn + 1 : Nat)) : Int) (fn : Int) = (m : Int) := by omega
                have hmI' : min ((bn : Int) + 1) (fn : Int) = (m : Int) := by omega
                have hm1 : m ≤ bn + 1 := by omega
                have hm2 : m ≤ fn := by omega
                have hm0 : (0 : Int) ≤ (m : Int) := by omega
                have hm3 : (m : Int) ≤ (c6 : Int) := by omega
                have hm4 : (m : Int) ≤ (fc : Int) := by omega
                have hmc : m ≤ c6 := by omega
                have hmf : m ≤ fc := by omega
                obtain ⟨g2, hg2⟩ : ∃ g2, lessL (([] ++ bz ++ [s]).take m) (fz.take m) = g2 := ⟨_, rfl⟩
                have HG2 := Lib.hid hg2
                have HMM : Hid (m = min (bz ++ [s]).length fz.length) := by show _ = _; rw [List.length_append, List.length_singleton, HBG.out.1, HFG.out.1]; exact hm.symm
                have HS1 : Hid (Sl .i64 w6 a6 m c6 (([] ++ bz ++ [s]).take m)) := HG6.out.cutR hm1
                have HS2 : Hid (Sl .i64 w6 fa m fc (fz.take m)) := (HFG.out.below HB6.out (Nat.le_refl _)).cutR hm2
                have HNX : Hid (bhdA l at_ (k + 1) bz fz = bhdA l at_ k bz fz ++ bhd l tn (bz ++ [s]) fz) := bhdA_next l at_ bz fz (by rw [HST.out]; show k < arcs.length; rw [HARS.out.1]; exact hkl) (by rw [HST.out]; exact HST2.out)
                have HM6 : Hid (Ml w.heap.size w6 oa L c outs) := HMY.out.below HB6.out
                have HWT : Hid (Below w.heap.size w w6) := HBW.out.trans (HB6.out.mono HBW.out.size)
                have hLN : L ≤ N := by rw [← HM.out.len, ← nums_length, HS.out, List.length_take]; exact Nat.min_le_left _ _
                have hc60 : w6.cell? ⟨wr.heap.size, 0, none⟩ = some (.int .i64 s) := hS6.1
                have hc61 : w6.cell? ⟨wr.heap.size, 1, none⟩ = some (.int .i64 (tn : Int)) := hS6.2
                have hc61' : ∀ q, (w6.drewN q).cell? ⟨wr.heap.size, 1, none⟩ = some (.int .i64 (tn : Int)) := fun _ => hS6.2
                clear hg2 hm hbT6 hHeld hS0 hS2 hS5 hS6
                cases g2
                · obtain ⟨M, hM⟩ : ∃ M, N - L = M := ⟨_, rfl⟩
                  have hmL : min (N : Int) (L : Int) = (L : Int) := by omega
                  have hsub : IntKind.i64.wrap ((N : Int) - (L : Int)) = (M : Int) := by rw [IntKind.wrap_i64]; omega
                  have HMN : Hid (M = N - min N L) := by show _ = _; omega
                  have hM3 : M ≤ 300 := by omega
                  have HLL : Hid (((bhdA l at_ k bz fz).take N).length = L) := by show _ = _; rw [← HS.out, nums_length]; exact HM.out.len
                  have htd : n - tn ≤ d := by omega
                  have hbt : bn + 1 ≤ tn := by omega
                  clear hM
                  go_wp2
                  go_quiet ((go_at_call 60; exact Calls.quiet_of (rless_is a6 fa m m c6 fc _ _ false _ (HS1.out.drewN _) (HS2.out.drewN _) HG2.out)))
                  go_wp2_with fail
                  refine (HIH.out tn htl3 htd _ a6 (bn + 1) c6 ([] ++ bz ++ [s]) M ((HXY.out.below HB6.out (Nat.le_refl _)).drawn ⟨_, rfl⟩) ((HCY.out.below HB6.out).drewN _) hcc (HG6.out.drewN _) HN6.out hbt ((HFG.out.below HB6.out (Nat.le_refl _)).drewN _) hM3).mono ?_
                  rintro e w7 ⟨a7, k7, c7, o7, rfl, m7, n7, b7⟩
                  have HB7 : Hid (Below w6.heap.size w6 w7) := (below_drewN (Below.refl _ _) _).trans b7
                  have HM7 : Hid (Ml w.heap.size w7 oa L c outs) := HM6.out.below HB7.out
                  have HO7 : Hid (Ml w.heap.size w7 a7 k7 c7 o7) := m7.lowerR HWT.out.size
                  have hk7 : k7 ≤ M := by rw [← m7.len, ← nums_length, n7, List.length_take]; exact Nat.min_le_left _ _
                  have HN7 := Lib.hid n7
                  have HW7 : Hid (Below w.heap.size w w7) := HWT.out.trans (HB7.out.mono HWT.out.size)
                  clear m7 n7 b7
                  go_wp2_with (at_builtin; refine append_words_w (by rfl) (.tmp 82) (.tmp 95) (by rfl) w.heap.size _ L outs (by rfl) HM7.out.row a7 k7 c7 o7 (by rfl) HO7.out.words HO7.out.nil (L + k7) rfl (by omega) HW7.out.size ?_; intro a8 c8 w8 hrow8 hb8 hg8 hn8; have HM8 := Lib.hid (HM7.out.app o7 HO7.out.own HO7.out.wfs HO7.out.lens HO7.out.len hrow8 hg8 hn8); have HB8 : Hid (Below w.heap.size w w8) := HW7.out.trans hb8; clear hrow8 hb8 hg8 hn8)
                  have HS8 : Hid (nums (outs ++ o7) = (bhdA l at_ (k + 1) bz fz).take N) := by
                    show _ = _
                    rw [HNX.out, take_on, HLL.out, ← HMN.out, nums_app, HS.out, HN7.out, List.nil_append]
                  go_roundw
                  case rel => exact ⟨k + 1, L + k7, c8, a8, outs ++ o7, by omega, rfl, by go_num, HM8.out, HS8.out, HB8.out⟩
                  case measure => simp [intOf]; omega
                · have HS8 : Hid (nums outs = (bhdA l at_ (k + 1) bz fz).take N) := by
                    show _ = _
                    rw [HNX.out, bhd_pass l tn (b := bz ++ [s]) (fr := fz) (by rw [← HMM.out]; have h := HG2.out; rw [List.nil_append] at h; exact h), List.append_nil]
                    exact HS.out
                  go_wp2
                  go_quiet ((go_at_call 60; exact Calls.quiet_of (rless_is a6 fa m m c6 fc _ _ true _ (HS1.out.drewN _) (HS2.out.drewN _) HG2.out)))
                  go_wp2
                  go_roundw
                  case rel => exact ⟨k + 1, L, c, oa, outs, by omega, rfl, by go_num, HM6.out.below (below_drewN (Below.refl _ _) _), HS8.out, below_drewN HWT.out _⟩
                  case measure => simp [intOf]; omega
                
              · refine stepR_one (by rfl) (.tmp 66) s (by rfl) (by rfl) HWS.out ?_
                intro w5 hsl5 hz5 hbx5
                have hbT5 : Below wy.heap.size wy w5 := hbT0.trans (hbx5.mono hbT0.size)
                replace hown0 := ownsRow_below hown0 hbx5 (Nat.le_refl _)
                have hS5 := HKS.out _ hbT5
                refine hK.out _ _ (by first | (first | exact HKS.out _ HBD.out | exact hS0 | exact hS2 | exact hS5 | exact hS6) | ((try dsimp only); first | exact HKS.out _ HBD.out | exact hS0 | exact hS2 | exact hS5 | exact hS6)) (fun hHeld => ?_)
                clear hK K
                try simp only [Act.put, List.getElem_toArray, List.getElem_cons_succ, List.getElem_cons_zero, List.setIfInBounds_toArray, List.set_cons_succ, List.set_cons_zero]
                refine wpAnyH_ready (rs := [2]) (by kernel_rfl) (by simp) ?_
                refine AllReadyH.cons rfl (fun K hK => ?_) AllReadyH.nil
                refine stepR_append (by rfl) (.tmp 62) (.tmp 63) (by rfl) wy.heap.size _ 0 [] (by rfl) hown0 ba bn bc bz (by rfl) (HBG.out.below hbT5 (Nat.le_refl _)) HBN.out bn (by omega) (by omega) hbT5.size ?_
                intro a2 c2 w2 hown2 hbx2 hgr2 _
                have hbT2 : Below wy.heap.size wy w2 := hbT5.trans hbx2
                replace hsl5 := hsl5.grownR hgr2 (by dsimp only; omega)
                have hS2 := HKS.out _ hbT2
                refine hK.out _ _ (by first | (first | exact HKS.out _ HBD.out | exact hS0 | exact hS2 | exact hS5 | exact hS6) | ((try dsimp only); first | exact HKS.out _ HBD.out | exact hS0 | exact hS2 | exact hS5 | exact hS6)) (fun hHeld => ?_)
                clear hK K
                try simp only [Act.put, List.getElem_toArray, List.getElem_cons_succ, List.getElem_cons_zero, List.setIfInBounds_toArray, List.set_cons_succ, List.set_cons_zero]
                refine wpAnyH_ready (rs := [6]) (by kernel_rfl) (by simp) ?_
                refine AllReadyH.cons rfl (fun K hK => ?_) AllReadyH.nil
                refine stepR_append (by rfl) (.tmp 64) (.tmp 67) (by rfl) wy.heap.size _ bn ([] ++ bz) (by rfl) hown2 _ 1 1 [s] (by rfl) hsl5 (fun h => by cases h) (bn + 1) rfl (by omega) hbT2.size ?_
                intro a6 c6 w6 hown6 hbx6 _ hn6
                have hbT6 : Below wy.heap.size wy w6 := hbT2.trans hbx6
                have hS6 := HKS.out _ hbT6
                refine hK.out _ _ (by first | (first | exact HKS.out _ HBD.out | exact hS0 | exact hS2 | exact hS5 | exact hS6) | ((try dsimp only); first | exact HKS.out _ HBD.out | exact hS0 | exact hS2 | exact hS5 | exact hS6)) (fun hHeld => ?_)
                clear hK K
                try simp only [Act.put, List.getElem_toArray, List.getElem_cons_succ, List.getElem_cons_zero, List.setIfInBounds_toArray, List.set_cons_succ, List.set_cons_zero]
                refine wpAnyH_take (i := 7) (v := ?vrd153) rfl (by kernel_rfl) (by kernel_rfl) (by kernel_rfl) (fun _ _ _ h => h) (Or.inl ⟨by rfl, ?hrd153⟩) (by assumption) ?rrd153
                case hrd153 => intro w hSw; (try dsimp only at hSw); go_simp; try with_reducible rfl
                simp only [Act.put, List.getElem_toArray, List.getElem_cons_succ, List.getElem_cons_zero, List.setIfInBounds_toArray, List.set_cons_succ, List.set_cons_zero]
                refine wpAnyH_done (by kernel_rfl) ?_ _
                have HG6 : Hid (Sl .i64 w6 a6 (bn + 1) c6 ([] ++ bz ++ [s])) := Sl.of_owns hown6 (by
                  intro x hx
                  rcases List.mem_append.1 hx with hx | hx
                  · exact HBG.out.2.2.2.1 x (by simpa using hx)
                  · rw [List.mem_singleton.1 hx]; exact HWS.out) (by simp [HBG.out.1])
                have HN6 := Lib.hid hn6
                have HB6 := Lib.hid hbT6
                have hc6 := HG6.out.2.1
                have hc6' := HG6.out.2.2.1
                unfold maxLen at hc6'
                clear hown6 hn6
                obtain ⟨m, hm⟩ : ∃ m, min (bn + 1) fn = m := ⟨_, rfl⟩
                have hmI : min (((bn + 1 : Nat)) : Int) (fn : Int) = (m : Int) := by omega
                have hmI' : min ((bn : Int) + 1) (fn : Int) = (m : Int) := by omega
                have hm1 : m ≤ bn + 1 := by omega
                have hm2 : m ≤ fn := by omega
                have hm0 : (0 : Int) ≤ (m : Int) := by omega
                have hm3 : (m : Int) ≤ (c6 : Int) := by omega
                have hm4 : (m : Int) ≤ (fc : Int) := by omega
                have hmc : m ≤ c6 := by omega
                have hmf : m ≤ fc := by omega
                obtain ⟨g2, hg2⟩ : ∃ g2, lessL (([] ++ bz ++ [s]).take m) (fz.take m) = g2 := ⟨_, rfl⟩
                have HG2 := Lib.hid hg2
                have HMM : Hid (m = min (bz ++ [s]).length fz.length) := by show _ = _; rw [List.length_append, List.length_singleton, HBG.out.1, HFG.out.1]; exact hm.symm
                have HS1 : Hid (Sl .i64 w6 a6 m c6 (([] ++ bz ++ [s]).take m)) := HG6.out.cutR hm1
                have HS2 : Hid (Sl .i64 w6 fa m fc (fz.take m)) := (HFG.out.below HB6.out (Nat.le_refl _)).cutR hm2
                have HNX : Hid (bhdA l at_ (k + 1) bz fz = bhdA l at_ k bz fz ++ bhd l tn (bz ++ [s]) fz) := bhdA_next l at_ bz fz (by rw [HST.out]; show k < arcs.length; rw [HARS.out.1]; exact hkl) (by rw [HST.out]; exact HST2.out)
                have HM6 : Hid (Ml w.heap.size w6 oa L c outs) := HMY.out.below HB6.out
                have HWT : Hid (Below w.heap.size w w6) := HBW.out.trans (HB6.out.mono HBW.out.size)
                have hLN : L ≤ N := by rw [← HM.out.len, ← nums_length, HS.out, List.length_take]; exact Nat.min_le_left _ _
                have hc60 : w6.cell? ⟨wr.heap.size, 0, none⟩ = some (.int .i64 s) := hS6.1
                have hc61 : w6.cell? ⟨wr.heap.size, 1, none⟩ = some (.int .i64 (tn : Int)) := hS6.2
                have hc61' : ∀ q, (w6.drewN q).cell? ⟨wr.heap.size, 1, none⟩ = some (.int .i64 (tn : Int)) := fun _ => hS6.2
                clear hg2 hm hbT6 hHeld hS0 hS2 hS5 hS6
                cases g2
                · obtain ⟨M, hM⟩ : ∃ M, N - L = M := ⟨_, rfl⟩
                  have hmL : min (N : Int) (L : Int) = (L : Int) := by omega
                  have hsub : IntKind.i64.wrap ((N : Int) - (L : Int)) = (M : Int) := by rw [IntKind.wrap_i64]; omega
                  have HMN : Hid (M = N - min N L) := by show _ = _; omega
                  have hM3 : M ≤ 300 := by omega
                  have HLL : Hid (((bhdA l at_ k bz fz).take N).length = L) := by show _ = _; rw [← HS.out, nums_length]; exact HM.out.len
                  have htd : n - tn ≤ d := by omega
                  have hbt : bn + 1 ≤ tn := by omega
                  clear hM
                  go_wp2
                  go_quiet ((go_at_call 60; exact Calls.quiet_of (rless_is a6 fa m m c6 fc _ _ false _ (HS1.out.drewN _) (HS2.out.drewN _) HG2.out)))
                  go_wp2_with fail
                  refine (HIH.out tn htl3 htd _ a6 (bn + 1) c6 ([] ++ bz ++ [s]) M ((HXY.out.below HB6.out (Nat.le_refl _)).drawn ⟨_, rfl⟩) ((HCY.out.below HB6.out).drewN _) hcc (HG6.out.drewN _) HN6.out hbt ((HFG.out.below HB6.out (Nat.le_refl _)).drewN _) hM3).mono ?_
                  rintro e w7 ⟨a7, k7, c7, o7, rfl, m7, n7, b7⟩
                  have HB7 : Hid (Below w6.heap.size w6 w7) := (below_drewN (Below.refl _ _) _).trans b7
                  have HM7 : Hid (Ml w.heap.size w7 oa L c outs) := HM6.out.below HB7.out
                  have HO7 : Hid (Ml w.heap.size w7 a7 k7 c7 o7) := m7.lowerR HWT.out.size
                  have hk7 : k7 ≤ M := by rw [← m7.len, ← nums_length, n7, List.length_take]; exact Nat.min_le_left _ _
                  have HN7 := Lib.hid n7
                  have HW7 : Hid (Below w.heap.size w w7) := HWT.out.trans (HB7.out.mono HWT.out.size)
                  clear m7 n7 b7
                  go_wp2_with (at_builtin; refine append_words_w (by rfl) (.tmp 82) (.tmp 95) (by rfl) w.heap.size _ L outs (by rfl) HM7.out.row a7 k7 c7 o7 (by rfl) HO7.out.words HO7.out.nil (L + k7) rfl (by omega) HW7.out.size ?_; intro a8 c8 w8 hrow8 hb8 hg8 hn8; have HM8 := Lib.hid (HM7.out.app o7 HO7.out.own HO7.out.wfs HO7.out.lens HO7.out.len hrow8 hg8 hn8); have HB8 : Hid (Below w.heap.size w w8) := HW7.out.trans hb8; clear hrow8 hb8 hg8 hn8)
                  have HS8 : Hid (nums (outs ++ o7) = (bhdA l at_ (k + 1) bz fz).take N) := by
                    show _ = _
                    rw [HNX.out, take_on, HLL.out, ← HMN.out, nums_app, HS.out, HN7.out, List.nil_append]
                  go_roundw
                  case rel => exact ⟨k + 1, L + k7, c8, a8, outs ++ o7, by omega, rfl, by go_num, HM8.out, HS8.out, HB8.out⟩
                  case measure => simp [intOf]; omega
                · have HS8 : Hid (nums outs = (bhdA l at_ (k + 1) bz fz).take N) := by
                    show _ = _
                    rw [HNX.out, bhd_pass l tn (b := bz ++ [s]) (fr := fz) (by rw [← HMM.out]; have h := HG2.out; rw [List.nil_append] at h; exact h), List.append_nil]
                    exact HS.out
                  go_wp2
                  go_quiet ((go_at_call 60; exact Calls.quiet_of (rless_is a6 fa m m c6 fc _ _ true _ (HS1.out.drewN _) (HS2.out.drewN _) HG2.out)))
                  go_wp2
                  go_roundw
                  case rel => exact ⟨k + 1, L, c, oa, outs, by omega, rfl, by go_num, HM6.out.below (below_drewN (Below.refl _ _) _), HS8.out, below_drewN HWT.out _⟩
                  case measure => simp [intOf]; omega
                
            · refine stepR_one (by rfl) (.tmp 66) s (by rfl) (by rfl) HWS.out ?_
              intro w5 hsl5 hz5 hbx5
              have hbT5 : Below wy.heap.size wy w5 := HBD.out.trans (hbx5.mono HBD.out.size)
              have hS5 := HKS.out _ hbT5
              refine hK.out _ _ (by first | (first | exact HKS.out _ HBD.out | exact hS0 | exact hS2 | exact hS5 | exact hS6) | ((try dsimp only); first | exact HKS.out _ HBD.out | exact hS0 | exact hS2 | exact hS5 | exact hS6)) (fun hHeld => ?_)
              clear hK K
              try simp only [Act.put, List.getElem_toArray, List.getElem_cons_succ, List.getElem_cons_zero, List.setIfInBounds_toArray, List.set_cons_succ, List.set_cons_zero]
              refine wpAnyH_ready (rs := [0]) (by kernel_rfl) (by simp) ?_
              refine AllReadyH.cons rfl (fun K hK => ?_) AllReadyH.nil
              refine stepR_none (by rfl) (by rfl) ?_
              intro w0 hown0' hz0 hbx0
              have hown0 := own_lower hown0' hbT5.size
              have hbT0 : Below wy.heap.size wy w0 := hbT5.trans (hbx0.mono hbT5.size)
              replace hsl5 := hsl5.below hbx0 (Nat.le_refl _)
              have hS0 := HKS.out _ hbT0
              refine hK.out _ _ (by first | (first | exact HKS.out _ HBD.out | exact hS0 | exact hS2 | exact hS5 | exact hS6) | ((try dsimp only); first | exact HKS.out _ HBD.out | exact hS0 | exact hS2 | exact hS5 | exact hS6)) (fun hHeld => ?_)
              clear hK K
              try simp only [Act.put, List.getElem_toArray, List.getElem_cons_succ, List.getElem_cons_zero, List.setIfInBounds_toArray, List.set_cons_succ, List.set_cons_zero]
              refine wpAnyH_ready (rs := [2]) (by kernel_rfl) (by simp) ?_
              refine AllReadyH.cons rfl (fun K hK => ?_) AllReadyH.nil
              refine stepR_append (by rfl) (.tmp 62) (.tmp 63) (by rfl) wy.heap.size _ 0 [] (by rfl) hown0 ba bn bc bz (by rfl) (HBG.out.below hbT0 (Nat.le_refl _)) HBN.out bn (by omega) (by omega) hbT0.size ?_
              intro a2 c2 w2 hown2 hbx2 hgr2 _
              have hbT2 : Below wy.heap.size wy w2 := hbT0.trans hbx2
              replace hsl5 := hsl5.grownR hgr2 (by dsimp only; omega)
              have hS2 := HKS.out _ hbT2
              refine hK.out _ _ (by first | (first | exact HKS.out _ HBD.out | exact hS0 | exact hS2 | exact hS5 | exact hS6) | ((try dsimp only); first | exact HKS.out _ HBD.out | exact hS0 | exact hS2 | exact hS5 | exact hS6)) (fun hHeld => ?_)
              clear hK K
              try simp only [Act.put, List.getElem_toArray, List.getElem_cons_succ, List.getElem_cons_zero, List.setIfInBounds_toArray, List.set_cons_succ, List.set_cons_zero]
              refine wpAnyH_ready (rs := [6]) (by kernel_rfl) (by simp) ?_
              refine AllReadyH.cons rfl (fun K hK => ?_) AllReadyH.nil
              refine stepR_append (by rfl) (.tmp 64) (.tmp 67) (by rfl) wy.heap.size _ bn ([] ++ bz) (by rfl) hown2 _ 1 1 [s] (by rfl) hsl5 (fun h => by cases h) (bn + 1) rfl (by omega) hbT2.size ?_
              intro a6 c6 w6 hown6 hbx6 _ hn6
              have hbT6 : Below wy.heap.size wy w6 := hbT2.trans hbx6
              have hS6 := HKS.out _ hbT6
              refine hK.out _ _ (by first | (first | exact HKS.out _ HBD.out | exact hS0 | exact hS2 | exact hS5 | exact hS6) | ((try dsimp only); first | exact HKS.out _ HBD.out | exact hS0 | exact hS2 | exact hS5 | exact hS6)) (fun hHeld => ?_)
              clear hK K
              try simp only [Act.put, List.getElem_toArray, List.getElem_cons_succ, List.getElem_cons_zero, List.setIfInBounds_toArray, List.set_cons_succ, List.set_cons_zero]
              refine wpAnyH_take (i := 7) (v := ?vrd268) rfl (by kernel_rfl) (by kernel_rfl) (by kernel_rfl) (fun _ _ _ h => h) (Or.inl ⟨by rfl, ?hrd268⟩) (by assumption) ?rrd268
              case hrd268 => intro w hSw; (try dsimp only at hSw); go_simp; try with_reducible rfl
              simp only [Act.put, List.getElem_toArray, List.getElem_cons_succ, List.getElem_cons_zero, List.setIfInBounds_toArray, List.set_cons_succ, List.set_cons_zero]
              refine wpAnyH_done (by kernel_rfl) ?_ _
              have HG6 : Hid (Sl .i64 w6 a6 (bn + 1) c6 ([] ++ bz ++ [s])) := Sl.of_owns hown6 (by
                intro x hx
                rcases List.mem_append.1 hx with hx | hx
                · exact HBG.out.2.2.2.1 x (by simpa using hx)
                · rw [List.mem_singleton.1 hx]; exact HWS.out) (by simp [HBG.out.1])
              have HN6 := Lib.hid hn6
              have HB6 := Lib.hid hbT6
              have hc6 := HG6.out.2.1
              have hc6' := HG6.out.2.2.1
              unfold maxLen at hc6'
              clear hown6 hn6
              obtain ⟨m, hm⟩ : ∃ m, min (bn + 1) fn = m := ⟨_, rfl⟩
              have hmI : min (((bn + 1 : Nat)) : Int) (fn : Int) = (m : Int) := by omega
              have hmI' : min ((bn : Int) + 1) (fn : Int) = (m : Int) := by omega
              have hm1 : m ≤ bn + 1 := by omega
              have hm2 : m ≤ fn := by omega
              have hm0 : (0 : Int) ≤ (m : Int) := by omega
              have hm3 : (m : Int) ≤ (c6 : Int) := by omega
              have hm4 : (m : Int) ≤ (fc : Int) := by omega
              have hmc : m ≤ c6 := by omega
              have hmf : m ≤ fc := by omega
              obtain ⟨g2, hg2⟩ : ∃ g2, lessL (([] ++ bz ++ [s]).take m) (fz.take m) = g2 := ⟨_, rfl⟩
              have HG2 := Lib.hid hg2
              have HMM : Hid (m = min (bz ++ [s]).length fz.length) := by show _ = _; rw [List.length_append, List.length_singleton, HBG.out.1, HFG.out.1]; exact hm.symm
              have HS1 : Hid (Sl .i64 w6 a6 m c6 (([] ++ bz ++ [s]).take m)) := HG6.out.cutR hm1
              have HS2 : Hid (Sl .i64 w6 fa m fc (fz.take m)) := (HFG.out.below HB6.out (Nat.le_refl _)).cutR hm2
              have HNX : Hid (bhdA l at_ (k + 1) bz fz = bhdA l at_ k bz fz ++ bhd l tn (bz ++ [s]) fz) := bhdA_next l at_ bz fz (by rw [HST.out]; show k < arcs.length; rw [HARS.out.1]; exact hkl) (by rw [HST.out]; exact HST2.out)
              have HM6 : Hid (Ml w.heap.size w6 oa L c outs) := HMY.out.below HB6.out
              have HWT : Hid (Below w.heap.size w w6) := HBW.out.trans (HB6.out.mono HBW.out.size)
              have hLN : L ≤ N := by rw [← HM.out.len, ← nums_length, HS.out, List.length_take]; exact Nat.min_le_left _ _
              have hc60 : w6.cell? ⟨wr.heap.size, 0, none⟩ = some (.int .i64 s) := hS6.1
              have hc61 : w6.cell? ⟨wr.heap.size, 1, none⟩ = some (.int .i64 (tn : Int)) := hS6.2
              have hc61' : ∀ q, (w6.drewN q).cell? ⟨wr.heap.size, 1, none⟩ = some (.int .i64 (tn : Int)) := fun _ => hS6.2
              clear hg2 hm hbT6 hHeld hS0 hS2 hS5 hS6
              cases g2
              · obtain ⟨M, hM⟩ : ∃ M, N - L = M := ⟨_, rfl⟩
                have hmL : min (N : Int) (L : Int) = (L : Int) := by omega
                have hsub : IntKind.i64.wrap ((N : Int) - (L : Int)) = (M : Int) := by rw [IntKind.wrap_i64]; omega
                have HMN : Hid (M = N - min N L) := by show _ = _; omega
                have hM3 : M ≤ 300 := by omega
                have HLL : Hid (((bhdA l at_ k bz fz).take N).length = L) := by show _ = _; rw [← HS.out, nums_length]; exact HM.out.len
                have htd : n - tn ≤ d := by omega
                have hbt : bn + 1 ≤ tn := by omega
                clear hM
                go_wp2
                go_quiet ((go_at_call 60; exact Calls.quiet_of (rless_is a6 fa m m c6 fc _ _ false _ (HS1.out.drewN _) (HS2.out.drewN _) HG2.out)))
                go_wp2_with fail
                refine (HIH.out tn htl3 htd _ a6 (bn + 1) c6 ([] ++ bz ++ [s]) M ((HXY.out.below HB6.out (Nat.le_refl _)).drawn ⟨_, rfl⟩) ((HCY.out.below HB6.out).drewN _) hcc (HG6.out.drewN _) HN6.out hbt ((HFG.out.below HB6.out (Nat.le_refl _)).drewN _) hM3).mono ?_
                rintro e w7 ⟨a7, k7, c7, o7, rfl, m7, n7, b7⟩
                have HB7 : Hid (Below w6.heap.size w6 w7) := (below_drewN (Below.refl _ _) _).trans b7
                have HM7 : Hid (Ml w.heap.size w7 oa L c outs) := HM6.out.below HB7.out
                have HO7 : Hid (Ml w.heap.size w7 a7 k7 c7 o7) := m7.lowerR HWT.out.size
                have hk7 : k7 ≤ M := by rw [← m7.len, ← nums_length, n7, List.length_take]; exact Nat.min_le_left _ _
                have HN7 := Lib.hid n7
                have HW7 : Hid (Below w.heap.size w w7) := HWT.out.trans (HB7.out.mono HWT.out.size)
                clear m7 n7 b7
                go_wp2_with (at_builtin; refine append_words_w (by rfl) (.tmp 82) (.tmp 95) (by rfl) w.heap.size _ L outs (by rfl) HM7.out.row a7 k7 c7 o7 (by rfl) HO7.out.words HO7.out.nil (L + k7) rfl (by omega) HW7.out.size ?_; intro a8 c8 w8 hrow8 hb8 hg8 hn8; have HM8 := Lib.hid (HM7.out.app o7 HO7.out.own HO7.out.wfs HO7.out.lens HO7.out.len hrow8 hg8 hn8); have HB8 : Hid (Below w.heap.size w w8) := HW7.out.trans hb8; clear hrow8 hb8 hg8 hn8)
                have HS8 : Hid (nums (outs ++ o7) = (bhdA l at_ (k + 1) bz fz).take N) := by
                  show _ = _
                  rw [HNX.out, take_on, HLL.out, ← HMN.out, nums_app, HS.out, HN7.out, List.nil_append]
                go_roundw
                case rel => exact ⟨k + 1, L + k7, c8, a8, outs ++ o7, by omega, rfl, by go_num, HM8.out, HS8.out, HB8.out⟩
                case measure => simp [intOf]; omega
              · have HS8 : Hid (nums outs = (bhdA l at_ (k + 1) bz fz).take N) := by
                  show _ = _
                  rw [HNX.out, bhd_pass l tn (b := bz ++ [s]) (fr := fz) (by rw [← HMM.out]; have h := HG2.out; rw [List.nil_append] at h; exact h), List.append_nil]
                  exact HS.out
                go_wp2
                go_quiet ((go_at_call 60; exact Calls.quiet_of (rless_is a6 fa m m c6 fc _ _ true _ (HS1.out.drewN _) (HS2.out.drewN _) HG2.out)))
                go_wp2
                go_roundw
                case rel => exact ⟨k + 1, L, c, oa, outs, by omega, rfl, by go_num, HM6.out.below (below_drewN (Below.refl _ _) _), HS8.out, below_drewN HWT.out _⟩
                case measure => simp [intOf]; omega
              
          · obtain rfl : sn = k := by omega
            have HE : Hid (nums outs = (bhd l at_ bz fz).take N) := by
              show _ = _
              rw [HS.out, ← bhdA_all hc (by rw [HLN.out]; exact hat), HST.out]
              show _ = List.take N (bhdA l at_ arcs.length bz fz)
              rw [HARS.out.1]
            have hLN : L ≤ N := by rw [← HM.out.len, ← nums_length, HS.out, List.length_take]; exact Nat.min_le_left _ _
            have hmL : min (N : Int) (L : Int) = (L : Int) := by omega
            have hLc : L ≤ c := HM.out.words.2.1
            have hcm := HM.out.words.2.2.1
            unfold maxLen at hcm
            have hL1 : (0 : Int) ≤ (L : Int) := by omega
            have hL2 : (L : Int) ≤ (c : Int) := by omega
            go_wp2
            go_ret
            exact ⟨_, _, _, outs, rfl, HM.out, HE.out, HB.out⟩
end Go.Proofs.Ytimjdlbhbiklgaa
