import Derived.Test.YtpcebfefbnpbpaaStpAll
import Derived.Test.YtpcebfefbnpbpaaRuleRef
import Derived.Test.YtpcebfefbnpbpaaRuleApp
set_option linter.all false
set_option maxRecDepth 100000
set_option maxHeartbeats 12800000
namespace Go.Proofs.Ytpcebfefbnpbpaa
open Go.RowKit

theorem aw17_at : Stp.at' ⟨[1, 2, 3, 4], [⟨[97, 98], [99], 5⟩]⟩ [97, 98] 0 = [⟨1, [97], false, 0⟩, ⟨1, [], true, 3⟩, ⟨1, [], false, 2⟩, ⟨2, [98, 97], false, 4⟩, ⟨0, [], true, 1⟩, ⟨2, [99], false, 5⟩] := by decide +kernel
theorem aw17_all : (Stp.all ⟨[1, 2, 3, 4], [⟨[97, 98], [99], 5⟩]⟩ [97, 98]).map List.length = [6, 4, 1] := by decide +kernel
theorem aw17_none : Stp.at' ⟨[1, 2, 3, 4], [⟨[97, 98], [99], 5⟩]⟩ [] 1 = [] := by decide +kernel
theorem aw17_inf : Stp.all ⟨[18446744073709551615, 0, 0, 0], []⟩ [] = [] := by decide +kernel
theorem inf17_good (w : World) : Cw.Good w (⟨18446744073709551615, 0, 0, 0, none, 0, 0, []⟩ : Cw) := ⟨Rs.nil, by intro z hz; simp [Cw.base] at hz; omega⟩
/-- step i of a slice, its cells -/
theorem ps_cells {w : World} {b off n cap : Nat} {xs : List Pw} {l : List Stp.St} (h : Ps w (some ⟨b, off, none⟩) n cap xs) (hl : stps xs = l) (i : Nat) (hi : i < n) {e c : Int} {p : List Int} {any : Bool} (he : l.getD i Stp.St.no = ⟨e, p, any, c⟩) :
    w.cell? ⟨b, off + i * 4, none⟩ = some (.int .i64 e) ∧ (∃ pa pn pc, w.cell? ⟨b, off + i * 4 + 1, none⟩ = some (.slice pa pn pc) ∧ Sl .i64 w pa pn pc p) ∧ w.cell? ⟨b, off + i * 4 + 2, none⟩ = some (.bool any) ∧ w.cell? ⟨b, off + i * 4 + 3, none⟩ = some (.int .u64 c) := by
  obtain ⟨b', off', e1, pa, pn, pc, P, an, cc, ha, _, h1, h2, h3, h4, h5, _, _, _, hz⟩ := h.one i hi
  simp only [Option.some.injEq, Addr.mk.injEq, and_true] at ha
  obtain ⟨rfl, rfl⟩ := ha
  have h6 := stps_at xs i
  rw [hl, he, hz] at h6
  simp only [Pw.s, Stp.St.mk.injEq] at h6
  obtain ⟨rfl, rfl, rfl, rfl⟩ := h6
  exact ⟨h1, ⟨pa, pn, pc, h2, h5⟩, h3, h4⟩
theorem ps_len {w : World} {a : Option Addr} {n cap : Nat} {xs : List Pw} {l : List Stp.St} (h : Ps w a n cap xs) (hl : stps xs = l) : n = l.length := by
  rw [← hl, stps_length]; exact h.1.symm
/-- lists as they lie, read -/
theorem AllP.at {w0 W : World} {B : Nat} {a : Option Addr} {n cap : Nat} {ys : List Lw} (h : AllP w0 W B a n cap ys) (h0 : 0 < n) : ∃ g, a = some ⟨g, 0, none⟩ ∧ ∀ i, i < n → W.cell? ⟨g, i, none⟩ = some (ys.getD i Lw.no).v := by
  rcases h.own.2 with ⟨_, hn⟩ | ⟨g, cp, cur, hv, hg, hh, hnc, hcm, hcs, ht⟩
  · omega
  · simp only [Value.slice.injEq] at hv
    obtain ⟨rfl, _, rfl⟩ := hv
    refine ⟨g, rfl, fun i hi => ?_⟩
    rw [h.own.cellAt i (by omega)]
    unfold lvals
    rw [List.getElem?_map, List.getElem?_eq_getElem (by rw [h.len]; exact hi), List.getD_eq_getElem?_getD, List.getElem?_eq_getElem (by rw [h.len]; exact hi)]
    rfl
theorem AllP.n_at {w0 W : World} {B : Nat} {a : Option Addr} {n cap : Nat} {ys : List Lw} (h : AllP w0 W B a n cap ys) (i : Nat) (hi : i < n) : (ys.getD i Lw.no).n = ((lsts ys).getD i []).length := by
  rw [lsts_at, stps_length]
  have hm : ys.getD i Lw.no ∈ ys := by
    rw [List.getD_eq_getElem?_getD, List.getElem?_eq_getElem (by rw [h.len]; exact hi), Option.getD_some]; exact List.getElem_mem _
  exact (h.rows _ hm).len.symm

theorem allP_none {w0 W : World} {B : Nat} {a : Option Addr} {n cap : Nat} {ys : List Lw} (h : AllP w0 W B a n cap ys) (hl : lsts ys = []) : n = 0 := by
  rw [← h.len, ← lsts_length, hl]; rfl
theorem madeP_at0 {w0 W : World} {B : Nat} {a : Option Addr} {n c : Nat} {xs : List Pw} (h : MadeP w0 W B a n c xs) (h0 : 0 < n) : ∃ g, a = some ⟨g, 0, none⟩ := by
  rcases h.own.2 with ⟨_, hn⟩ | ⟨g, cp, cur, hv, _⟩
  · omega
  · simp only [Value.slice.injEq] at hv
    exact ⟨g, hv.1⟩
theorem aw17_start (w : World) : Cw.Good (((((w.alloc (.cells #[.int .i64 97, .int .i64 98] 3)).alloc (.cells #[.int .i64 99] 3)).alloc (.cells #[.slice (some ⟨w.heap.size, 0, none⟩) 2 2, .slice (some ⟨w.heap.size + 1, 0, none⟩) 1 1, .int .u64 5] 41)).alloc (.cells #[.int .u64 1, .int .u64 2, .int .u64 3, .int .u64 4, .slice (some ⟨w.heap.size + 1 + 1, 0, none⟩) 1 1] 25)).alloc (.cells #[.int .i64 97, .int .i64 98] 3)) (⟨1, 2, 3, 4, some ⟨w.heap.size + 1 + 1, 0, none⟩, 1, 1, [(⟨some ⟨w.heap.size, 0, none⟩, 2, 2, [97, 98], some ⟨w.heap.size + 1, 0, none⟩, 1, 1, [99], 5⟩ : Rw)]⟩ : Cw) ∧ Sl .i64 (((((w.alloc (.cells #[.int .i64 97, .int .i64 98] 3)).alloc (.cells #[.int .i64 99] 3)).alloc (.cells #[.slice (some ⟨w.heap.size, 0, none⟩) 2 2, .slice (some ⟨w.heap.size + 1, 0, none⟩) 1 1, .int .u64 5] 41)).alloc (.cells #[.int .u64 1, .int .u64 2, .int .u64 3, .int .u64 4, .slice (some ⟨w.heap.size + 1 + 1, 0, none⟩) 1 1] 25)).alloc (.cells #[.int .i64 97, .int .i64 98] 3)) (some ⟨w.heap.size + 1 + 1 + 1 + 1, 0, none⟩) 2 2 [97, 98] ∧ (((((w.alloc (.cells #[.int .i64 97, .int .i64 98] 3)).alloc (.cells #[.int .i64 99] 3)).alloc (.cells #[.slice (some ⟨w.heap.size, 0, none⟩) 2 2, .slice (some ⟨w.heap.size + 1, 0, none⟩) 1 1, .int .u64 5] 41)).alloc (.cells #[.int .u64 1, .int .u64 2, .int .u64 3, .int .u64 4, .slice (some ⟨w.heap.size + 1 + 1, 0, none⟩) 1 1] 25)).alloc (.cells #[.int .i64 97, .int .i64 98] 3)).heap[w.heap.size + 1 + 1 + 1]? = some (.cells #[.int .u64 1, .int .u64 2, .int .u64 3, .int .u64 4, .slice (some ⟨w.heap.size + 1 + 1, 0, none⟩) 1 1] 25 (0, 0)) ∧ Below w.heap.size w (((((w.alloc (.cells #[.int .i64 97, .int .i64 98] 3)).alloc (.cells #[.int .i64 99] 3)).alloc (.cells #[.slice (some ⟨w.heap.size, 0, none⟩) 2 2, .slice (some ⟨w.heap.size + 1, 0, none⟩) 1 1, .int .u64 5] 41)).alloc (.cells #[.int .u64 1, .int .u64 2, .int .u64 3, .int .u64 4, .slice (some ⟨w.heap.size + 1 + 1, 0, none⟩) 1 1] 25)).alloc (.cells #[.int .i64 97, .int .i64 98] 3)) := by
  have b1 : ∀ (W : World) (o : Obj), Below W.heap.size W (W.alloc o) := fun W o => (Below.refl _ W).alloc (Nat.le_refl _) o
  have wf : ∀ z ∈ ([97, 98] : List Int), (Lit.int .i64 z).wf = true := by decide
  have s1 : Sl .i64 (w.alloc (.cells #[.int .i64 97, .int .i64 98] 3)) (some ⟨w.heap.size, 0, none⟩) 2 2 [97, 98] := Sl.newI [97, 98] wf (by unfold maxLen; simp) rfl rfl rfl
  have s2 : Sl .i64 ((w.alloc (.cells #[.int .i64 97, .int .i64 98] 3)).alloc (.cells #[.int .i64 99] 3)) (some ⟨w.heap.size + 1, 0, none⟩) 1 1 [99] := Sl.newI [99] (by decide) (by unfold maxLen; simp) (by simp) rfl rfl
  have g2 : Rw.Good ((w.alloc (.cells #[.int .i64 97, .int .i64 98] 3)).alloc (.cells #[.int .i64 99] 3)) (⟨some ⟨w.heap.size, 0, none⟩, 2, 2, [97, 98], some ⟨w.heap.size + 1, 0, none⟩, 1, 1, [99], 5⟩ : Rw) := ⟨s1.alloc _, s2, (show (0 : Int) ≤ 5 by decide), (show (5 : Int) < 18446744073709551616 by decide)⟩
  have r3 := Rs.newc (w := (w.alloc (.cells #[.int .i64 97, .int .i64 98] 3)).alloc (.cells #[.int .i64 99] 3)) (t := 41) (fr := (0, 0)) (B := w.heap.size + 1 + 1) (n := 1) (m := 1) [(⟨some ⟨w.heap.size, 0, none⟩, 2, 2, [97, 98], some ⟨w.heap.size + 1, 0, none⟩, 1, 1, [99], 5⟩ : Rw)] (by intro x hx; rw [List.mem_singleton.1 hx]; exact g2) (by unfold maxLen; simp) (by simp) rfl rfl
  refine ⟨⟨(r3.alloc _).alloc _, by intro z hz; simp [Cw.base] at hz; omega⟩, Sl.newI [97, 98] wf (by unfold maxLen; simp) (by simp) rfl rfl, ?_, ((((b1 _ _).alloc (by simp) _).alloc (by simp; omega) _).alloc (by simp; omega) _).alloc (by simp; omega) _⟩
  have h := heap_alloc_new (((w.alloc (.cells #[.int .i64 97, .int .i64 98] 3)).alloc (.cells #[.int .i64 99] 3)).alloc (.cells #[.slice (some ⟨w.heap.size, 0, none⟩) 2 2, .slice (some ⟨w.heap.size + 1, 0, none⟩) 1 1, .int .u64 5] 41)) (.cells #[.int .u64 1, .int .u64 2, .int .u64 3, .int .u64 4, .slice (some ⟨w.heap.size + 1 + 1, 0, none⟩) 1 1] 25)
  rw [World.size_alloc, World.size_alloc, World.size_alloc] at h
  rw [heap_alloc_old _ _ _ (by simp)]
  exact h

theorem awake_any (w : World) : Calls Try.prog 8 #[] w fun e w' => e = .returned (.bool true) ∧ Below w.heap.size w w' := by
  go_enter Try.func8, Try.ntmps8
  go_wp2_with fail
  obtain ⟨hc, hq, hp, hbv⟩ := aw17_start w
  generalize ((((w.alloc (.cells #[.int .i64 97, .int .i64 98] 3)).alloc (.cells #[.int .i64 99] 3)).alloc (.cells #[.slice (some ⟨w.heap.size, 0, none⟩) 2 2, .slice (some ⟨w.heap.size + 1, 0, none⟩) 1 1, .int .u64 5] 41)).alloc (.cells #[.int .u64 1, .int .u64 2, .int .u64 3, .int .u64 4, .slice (some ⟨w.heap.size + 1 + 1, 0, none⟩) 1 1] 25)).alloc (.cells #[.int .i64 97, .int .i64 98] 3) = V at hc hq hp hbv ⊢
  have HC := Lib.hid hc
  have HP := Lib.hid hp
  have HBV := Lib.hid hbv
  refine (sat17_is (⟨1, 2, 3, 4, some ⟨w.heap.size + 1 + 1, 0, none⟩, 1, 1, [(⟨some ⟨w.heap.size, 0, none⟩, 2, 2, [97, 98], some ⟨w.heap.size + 1, 0, none⟩, 1, 1, [99], 5⟩ : Rw)]⟩ : Cw) _ 2 2 [97, 98] 0 V V (Below.refl _ _) hc hq).mono ?_
  rintro e w2 ⟨a2, n2, c2, xs2, rfl, hm2, ht2, hn2, hb2⟩
  have ht2 : stps xs2 = [⟨1, [97], false, 0⟩, ⟨1, [], true, 3⟩, ⟨1, [], false, 2⟩, ⟨2, [98, 97], false, 4⟩, ⟨0, [], true, 1⟩, ⟨2, [99], false, 5⟩] := ht2.trans aw17_at
  have hps2 := hm2.ps
  obtain rfl : n2 = 6 := ps_len hps2 ht2
  obtain ⟨g2, rfl⟩ := madeP_at0 hm2 (by omega)
  have HT2 := Lib.hid ht2
  have HPS2 := Lib.hid hps2
  have HB2 := Lib.hid (hbv.trans (hb2.mono hbv.size))
  have HP2 := Lib.hid ((hb2.block _ (lt_of_obj hp)).trans hp)
  have HC2 := Lib.hid (hc.below hb2 (Nat.le_refl _))
  clear hc hq hp hbv hm2 ht2 hn2 hb2 hps2 HC HP
  have hbx : w2.cell? ⟨w.heap.size + 1 + 1 + 1, 0, none⟩ = some (.int .u64 1) ∧ w2.cell? ⟨w.heap.size + 1 + 1 + 1, 1, none⟩ = some (.int .u64 2) ∧ w2.cell? ⟨w.heap.size + 1 + 1 + 1, 2, none⟩ = some (.int .u64 3) ∧ w2.cell? ⟨w.heap.size + 1 + 1 + 1, 3, none⟩ = some (.int .u64 4) ∧ w2.cell? ⟨w.heap.size + 1 + 1 + 1, 4, none⟩ = some (.slice (some ⟨w.heap.size + 1 + 1, 0, none⟩) 1 1) := by
    refine ⟨?_, ?_, ?_, ?_, ?_⟩ <;> (rw [cell_of_row w2 _ _ _ _ _ HP2.out]; rfl)
  obtain ⟨k0, k1, k2, k3, k4⟩ := hbx
  go_wp2_with fail
  clear k0 k1 k2 k3 k4
  obtain ⟨V2, hV2⟩ : ∃ V2, V2 = w2.alloc (.cells #[.int .i64 97, .int .i64 98] 3) := ⟨_, rfl⟩
  have hq2 : Sl .i64 V2 (some ⟨w2.heap.size, 0, none⟩) 2 2 [97, 98] := by rw [hV2]; exact Sl.newI [97, 98] (by decide) (by unfold maxLen; simp) rfl rfl rfl
  have hb22 : Below w2.heap.size w2 V2 := by rw [hV2]; exact (Below.refl _ w2).alloc (Nat.le_refl _) _
  rw [← hV2]
  refine (sall17_is (⟨1, 2, 3, 4, some ⟨w.heap.size + 1 + 1, 0, none⟩, 1, 1, [(⟨some ⟨w.heap.size, 0, none⟩, 2, 2, [97, 98], some ⟨w.heap.size + 1, 0, none⟩, 1, 1, [99], 5⟩ : Rw)]⟩ : Cw) _ 2 2 [97, 98] V2 V2 (Below.refl _ _) (HC2.out.below hb22 (Nat.le_refl _)) hq2).mono ?_
  rintro e w3 ⟨a3, n3, c3, ys3, rfl, hm3, ht3, hn3, hb3⟩
  have hlen : (lsts ys3).map List.length = [6, 4, 1] := by rw [ht3]; exact aw17_all
  obtain rfl : n3 = 3 := by
    have h := congrArg List.length hlen
    rw [List.length_map, lsts_length, hm3.len] at h
    exact h
  obtain ⟨g3, rfl, hcell3⟩ := hm3.at (by omega)
  have hlat : ∀ i, i < 3 → (ys3.getD i Lw.no).n = ([6, 4, 1] : List Nat).getD i 0 := fun i hi => by
    rw [hm3.n_at i hi, ← hlen, List.getD_eq_getElem?_getD, List.getD_eq_getElem?_getD, List.getElem?_map]
    cases h : (lsts ys3)[i]? with
    | none => rw [List.getElem?_eq_none_iff, lsts_length, hm3.len] at h; omega
    | some v => rfl
  obtain ⟨⟨pa1, pn1, pc1, px1⟩, hy1⟩ : ∃ y, y = ys3.getD 1 Lw.no := ⟨_, rfl⟩
  obtain ⟨⟨pa2, pn2, pc2, px2⟩, hy2⟩ : ∃ y, y = ys3.getD 2 Lw.no := ⟨_, rfl⟩
  have h1 := hcell3 1 (by omega)
  have h2 := hcell3 2 (by omega)
  have e1 := hlat 1 (by omega)
  have e2 := hlat 2 (by omega)
  rw [← hy1] at h1 e1
  rw [← hy2] at h2 e2
  obtain rfl : pn1 = 4 := e1
  obtain rfl : pn2 = 1 := e2
  have hb23 : Below w2.heap.size w2 w3 := hb22.trans (hb3.mono hb22.size)
  have HPS3 := Lib.hid (HPS2.out.below hb23 (Nat.le_refl _))
  have HP3 := Lib.hid ((hb23.block _ (lt_of_obj HP2.out)).trans HP2.out)
  have HC3 := Lib.hid (HC2.out.below hb23 (Nat.le_refl _))
  have HB3 := Lib.hid (HB2.out.trans (hb23.mono HB2.out.size))
  have HF : Hid (∀ W, Below w3.heap.size w3 W → ((W.cell? ⟨g2, 3, none⟩ = some (.int .u64 0) ∧ W.cell? ⟨g2, 6, none⟩ = some (.bool true) ∧ W.cell? ⟨g2, 11, none⟩ = some (.int .u64 2)) ∧ (W.cell? ⟨g2, 16, none⟩ = some (.int .i64 0) ∧ W.cell? ⟨g2, 18, none⟩ = some (.bool true) ∧ W.cell? ⟨g2, 20, none⟩ = some (.int .i64 2) ∧ W.cell? ⟨g2, 23, none⟩ = some (.int .u64 5)) ∧
      (W.cell? ⟨g3, 1, none⟩ = some (.slice pa1 4 pc1) ∧ W.cell? ⟨g3, 2, none⟩ = some (.slice pa2 1 pc2)) ∧ W.cell? ⟨w.heap.size + 1 + 1 + 1, 0, none⟩ = some (.int .u64 1) ∧ W.cell? ⟨w.heap.size + 1 + 1 + 1, 1, none⟩ = some (.int .u64 2) ∧ W.cell? ⟨w.heap.size + 1 + 1 + 1, 2, none⟩ = some (.int .u64 3) ∧ W.cell? ⟨w.heap.size + 1 + 1 + 1, 3, none⟩ = some (.int .u64 4) ∧ W.cell? ⟨w.heap.size + 1 + 1 + 1, 4, none⟩ = some (.slice (some ⟨w.heap.size + 1 + 1, 0, none⟩) 1 1))) := Lib.hid fun W hb => by
    have hp := HPS3.out.below hb (Nat.le_refl _)
    have hx := (hb.block _ (lt_of_obj HP3.out)).trans HP3.out
    have f0 := ps_cells hp HT2.out 0 (by omega) rfl
    have f1 := ps_cells hp HT2.out 1 (by omega) rfl
    have f2 := ps_cells hp HT2.out 2 (by omega) rfl
    have f4 := ps_cells hp HT2.out 4 (by omega) rfl
    have f5 := ps_cells hp HT2.out 5 (by omega) rfl
    refine ⟨⟨f0.2.2.2, f1.2.2.1, f2.2.2.2⟩, ⟨f4.1, f4.2.2.1, f5.1, f5.2.2.2⟩, ⟨?_, ?_⟩, ?_, ?_, ?_, ?_, ?_⟩
    · rw [hb.cell (p := ⟨g3, 1, none⟩) (cell_lt h1)]; exact h1
    · rw [hb.cell (p := ⟨g3, 2, none⟩) (cell_lt h2)]; exact h2
    all_goals (rw [cell_of_row W _ _ _ _ _ hx]; rfl)
  obtain ⟨-, ⟨sa, sn, sc, hs13, hsl3⟩, -, -⟩ := ps_cells HPS3.out HT2.out 3 (by omega) rfl
  have hs13 : w3.cell? ⟨g2, 13, none⟩ = some (.slice sa sn sc) := hs13
  have HSL := Lib.hid hsl3
  obtain ⟨⟨c0, c1, c2'⟩, -, -⟩ := HF.out w3 (Below.refl _ _)
  clear hV2 hq2 hb22 hm3 ht3 hn3 hb3 hlen hcell3 hlat hy1 hy2 h1 h2 hb23 hsl3
  go_wp2_with (first
    | (go_at_call 16; refine (same_is sa _ sn 2 sc 2 [98, 97] [98, 97] true _ (HSL.out.alloc _) (Sl.newI [98, 97] (by decide) (by unfold maxLen; simp) rfl rfl rfl) (by decide)).mono ?_; rintro e w4 ⟨rfl, hd4⟩; have HD4 : Hid (Below w3.heap.size w3 w4) := Lib.hid (below_drawn ((Below.refl _ w3).alloc (Nat.le_refl _) _) hd4); obtain ⟨-, ⟨d0, d1, d2, d3⟩, ⟨d4, d5⟩, d6, d7, d8, d9, d10⟩ := HF.out w4 HD4.out; clear hd4)
    | (go_at_call 13; refine (sat17_is (⟨1, 2, 3, 4, some ⟨w.heap.size + 1 + 1, 0, none⟩, 1, 1, [(⟨some ⟨w.heap.size, 0, none⟩, 2, 2, [97, 98], some ⟨w.heap.size + 1, 0, none⟩, 1, 1, [99], 5⟩ : Rw)]⟩ : Cw) none 0 0 [] 1 _ _ (Below.refl _ _) (HC3.out.below HD4.out (Nat.le_refl _)) Sl.nil).mono ?_; rintro e w5 ⟨a5, n5, c5, xs5, rfl, hm5, ht5, hn5, hb5⟩; have HB5 := Lib.hid hb5; obtain rfl : n5 = 0 := ps_len hm5.ps (ht5.trans aw17_none); clear hm5 ht5 hn5 hb5)
    | (go_at_call 10; refine (sall17_is ⟨18446744073709551615, 0, 0, 0, none, 0, 0, []⟩ none 0 0 [] _ _ (Below.refl _ _) (inf17_good _) Sl.nil).mono ?_; rintro e w6 ⟨a6, n6, c6, ys6, rfl, hm6, ht6, hn6, hb6⟩; have HB6 := Lib.hid hb6; obtain rfl : n6 = 0 := allP_none hm6 (ht6.trans aw17_inf); clear hm6 ht6 hn6 hb6)
    | fail)
  go_ret
  exact ⟨rfl, ((HB3.out.trans (HD4.out.mono HB3.out.size)).trans (HB5.out.mono (by have := HB3.out.size; have := HD4.out.size; omega))).trans (HB6.out.mono (by have := HB3.out.size; have := HD4.out.size; have := HB5.out.size; omega))⟩
end Go.Proofs.Ytpcebfefbnpbpaa
