/- For every cost, place and byte NumWrong answers true, and turns nothing that was there. No condition. -/
import Derived.Test.YtfoajpdjjhbmkaaRows
import Derived.Test.YtfoajpdjjhbmkaaNumAwake
import Derived.WalkKit
import Derived.ChangeOld
import Derived.Below
import Derived.ProofKit
import Derived.OpenShut
import Derived.ShutString
namespace Go.Proofs.Ytfoajpdjjhbmkaa.numWrong
open Go.ChangeShapes Go.WideShapes Go.ChangeAt Go.RowKit
open Go.ChangeMaps (open_string shut_string)
set_option linter.unusedVariables false      -- a walk need not use every 'w<i>' (that an integer argument fits its kind)

theorem own : ownKnob Try.prog.godebug = none := by kernel_rfl

theorem none_set {c j : Nat} {x : Int} (hj : j < (Num.dig c).length) (hx : ¬ (48 ≤ x ∧ x ≤ 57)) : Num.read ((Num.dig c).set j x) = none :=
  Num.read_none_digit (List.mem_set hj x) hx
theorem none_mid {l r : List Int} {x : Int} (hx : ¬ (48 ≤ x ∧ x ≤ 57)) : Num.read ((l ++ [x]) ++ r) = none :=
  Num.read_none_digit (by simp) hx
theorem owns_some {w : World} {B n c : Nat} {a : Option Addr} {e : TypeId} {l : List Value} (h : w.ownsRow B e 1 (.slice a n c) n l) (hn : 0 < n) : ∃ g, a = some ⟨g, 0, none⟩ ∧ B ≤ g := by
  rcases h.2 with ⟨hv, h0⟩ | ⟨g, c', cur, hv, hg, _⟩
  · simp only [Value.slice.injEq] at hv; omega
  · simp only [Value.slice.injEq] at hv; exact ⟨g, hv.1, hg⟩
theorem own_cell {w : World} {B n c g : Nat} {l' : List Value} (h : w.ownsRow B 5 1 (.slice (some ⟨g, 0, none⟩) n c) n l') (q : Nat) (l : List Int) (hl : l' = u8s l) (hn : n = l.length) (hq : q < n) : w.cell? ⟨g, q, none⟩ = some (.int .u8 (l.getD q 0)) := by
  subst hl
  rw [h.cellAt q (by omega)]
  simp [u8s, show q < l.length by omega]
theorem le_two (n : Nat) : n ≤ n + 1 + 1 := by omega
theorem owns0_le {B : Nat} {w : World} (h : B ≤ w.heap.size) : (w.alloc (.cells #[] 5)).ownsRow B 5 1 (.slice (some ⟨w.heap.size, 0, none⟩) 0 0) 0 (u8s []) := by
  have h := World.ownsRow_lit (base := B) (e := 5) (size := 1) w #[] 0 h (Nat.zero_le _) (by simp)
  simpa [u8s] using h
theorem x_cell' {w : World} {g : Nat} {v : Value} {t : TypeId} (h : g = w.heap.size) : (w.alloc (.cells #[v] t)).cell? ⟨g, 0, none⟩ = some v := by
  have := one_newp (w := w) (v := v) (t := t) h 0 v rfl
  simpa [Addr.add] using this
theorem x_alloc {W : World} {gx : Nat} {v : Value} {o : Obj} (h : W.cell? ⟨gx, 0, none⟩ = some v) : (W.alloc o).cell? ⟨gx, 0, none⟩ = some v :=
  (World.cell?_of_block (Below.heap_alloc _ _ _ (cell_lt h))).trans h
theorem x_kept {W w' : World} {r : Option Nat} {gx : Nat} {v : Value} (h : W.cell? ⟨gx, 0, none⟩ = some v) (hg : W.grownBy w' r) (hne : some gx ≠ r) : w'.cell? ⟨gx, 0, none⟩ = some v :=
  (World.cell?_of_block (hg.block gx (cell_lt h) hne)).trans h
theorem none_end {l : List Int} {x : Int} (hx : ¬ (48 ≤ x ∧ x ≤ 57)) : Num.read (l ++ [x]) = none :=
  Num.read_none_digit (by simp) hx

/-! ### STEP 1: THE WALK: the Go text returns true. 'Grown w w'': the world has at most new blocks (Derived/RowKit3.lean). Part the cases AHEAD of 'go_enter' where a test parts the walk; take each callee by a contract of your own. -/
set_option maxRecDepth 100000 in
set_option maxHeartbeats 6000000 in
theorem walk (a0 : Int) (a1 : Int) (a2 : Int) (w0 : (Lit.int .u64 a0).wf = true) (w1 : (Lit.int .u8 a1).wf = true) (w2 : (Lit.int .u8 a2).wf = true) (w : World) :
    Calls Try.prog 6 #[.int .u64 a0, .int .u8 a1, .int .u8 a2] w fun e w' => e = .returned (.bool true) ∧ Below w.heap.size w w' := by
  obtain ⟨hc00, hc01⟩ := bounds_u64 w0
  obtain ⟨c, rfl⟩ : ∃ c : Nat, a0 = (c : Int) := ⟨a0.toNat, by omega⟩
  have hcb : c < 18446744073709551616 := by omega
  clear w0 hc00 hc01
  obtain ⟨hc10, hc11⟩ := bounds_u8 w1
  obtain ⟨p, rfl⟩ : ∃ c : Nat, a1 = (c : Int) := ⟨a1.toNat, by omega⟩
  have hpb : p < 256 := by omega
  clear w1 hc10 hc11
  obtain ⟨hc20, hc21⟩ := bounds_u8 w2
  obtain ⟨x, rfl⟩ : ∃ c : Nat, a2 = (c : Int) := ⟨a2.toNat, by omega⟩
  have hxb : x < 256 := by omega
  clear w2 hc20 hc21
  have HWC := Lib.hid (fun w => write_any c hcb w)
  have HPOS := Lib.hid (Num.dig_pos c)
  have HL20 := Lib.hid (Num.len_20 hcb)
  have HWFD := Lib.hid (Num.dig_wf c)
  by_cases h48 : x < 48
  · have hi48 : ¬ (48 : Int) ≤ (x : Int) := by omega
    have HX : Hid (¬ (48 ≤ (x : Int) ∧ (x : Int) ≤ 57)) := by show ¬ _; omega
    clear h48
    go_enter Try.func6, Try.ntmps6
    go_wp2_with fail
    refine (awake_any _).mono ?_
    rintro e w1 ⟨rfl, B1⟩
    go_wp2_with fail
    refine (HWC.out _).mono ?_
    intro e w2 h2
    obtain ⟨a2, n2, c2, rfl, hn2, hs2, _, hb2⟩ := BytesIs.sl h2 (Num.dig_wf _)
    have B2 := B1.trans (hb2.mono B1.size)
    have hpos : 0 < n2 := by rw [hn2]; exact HPOS.out
    have hn20 : n2 ≤ 20 := by rw [hn2]; exact HL20.out
    have hn0 : ((n2 : Int) == 0) = false := by simp; omega
    have S2 := Lib.hid hs2
    have HN2 := Lib.hid hn2
    obtain ⟨b2, off2, rfl, _, _⟩ := hs2.at hpos
    have hnc2 := hs2.2.1
    clear h2 hn2 hs2 hb2 B1
    obtain ⟨q, hq, hqn⟩ : ∃ q : Nat, (p : Int) % (n2 : Int) = (q : Int) ∧ q < n2 := ⟨p % n2, by simp, Nat.mod_lt _ hpos⟩
    have HO0 := Lib.hid (owns0_bytes w2)
    have hsz := B2.size
    go_wp2_with (at_builtin; refine append_bytes (by rfl) (.tmp 35) (.tmp 36) (by rfl) w2.heap.size _ 0 [] (by rfl) HO0.out (some ⟨b2, off2, none⟩) n2 c2 (Num.dig c) (by rfl) (S2.out.alloc _) n2 (Nat.zero_add _) (by omega) (by simp) ?_; intro a3 c3 w3 hown3 hb3 hn3; rw [List.nil_append] at hown3; obtain ⟨g3, hg3, hbg3⟩ := owns_some hown3 hpos; subst hg3; have hf3 := hown3.frozenAt q; have hcl3 := own_cell hown3 q (Num.dig c) rfl HN2.out hqn; have HOWN3 := Lib.hid hown3; have HB3 := Lib.hid hb3; have HN3 := Lib.hid hbg3; clear hown3 hb3 hn3 hbg3)
    have hown4 := owns_set HOWN3.out q (x : Int)
    have hlen : ((Num.dig c).set q (x : Int)).length = n2 := by rw [List.length_set, HN2.out]
    have Y := Lib.hid (Sl.of_owns (k := .u8) hown4 (fun z hz => by
      rcases List.mem_or_eq_of_mem_set hz with hz | hz
      · exact HWFD.out z hz
      · rw [hz]; exact WalkArith.wf_u8 ⟨by omega, by omega⟩) hlen)
    have hb3 := HB3.out
    have B3 := (B2.alloc B2.size _).trans (hb3.mono hsz)
    have D3 : Below w2.heap.size w2 w3 := ((Below.refl _ w2).alloc (Nat.le_refl _) _).trans hb3
    have S3 := Lib.hid (S2.out.below D3 (Nat.le_refl _))
    have B4 := B3.setCell (p := ⟨g3, q, none⟩) (Nat.le_trans hsz HN3.out) (.int .u8 (x : Int))
    have D4 : Below w2.heap.size w2 (w3.setCell ⟨g3, q, none⟩ (.int .u8 (x : Int))) := D3.setCell (p := ⟨g3, q, none⟩) HN3.out (.int .u8 (x : Int))
    have S4 := Lib.hid (S2.out.below D4 (Nat.le_refl _))
    have HR1 : Hid (Num.read ((Num.dig c).set q (x : Int)) = none) := none_set (by rw [← HN2.out]; exact hqn) HX.out
    clear hown4 hlen hb3 B3 D3 S3 D4 HB3 HOWN3 HN3 hcl3 hf3 B2 hsz HO0
    refine (read_any _ _ _ _ _ Y.out).mono ?_
    rintro e w5 ⟨h5, hb5⟩
    obtain rfl := h5.none HR1.out
    have S5 := Lib.hid (S4.out.below hb5 (Nat.le_refl _))
    have B5 := B4.trans (hb5.mono B4.size)
    clear h5 hb5 Y S4 B4 S2
    have hmx : Try.prog.follows .mixedOrders = true := by kernel_rfl
    go_wp2_with fail
    have HWX : Hid ((Lit.int .u8 (x : Int)).wf = true) := WalkArith.wf_u8 ⟨by omega, by omega⟩
    have PC := Lib.hid (S5.out.first q (by omega))
    have PD := Lib.hid (S5.out.piece q (n2 - q) (by omega))
    have HOZ : Hid (((w5.drew.alloc (.cells #[.int .u8 (x : Int)] 5)).alloc (.cells #[] 5)).ownsRow w5.heap.size 5 1 (.slice (some ⟨w5.heap.size + 1, 0, none⟩) 0 0) 0 (u8s [])) := by
      have h := owns0_le (B := w5.heap.size) (w := w5.drew.alloc (.cells #[.int .u8 (x : Int)] 5)) (by simp)
      show World.ownsRow _ _ _ _ _ _ _
      simpa using h
    have HWM : Hid (∀ z ∈ ((Num.dig c).take q ++ [(x : Int)]) ++ ((Num.dig c).drop q).take (n2 - q), (Lit.int .u8 z).wf = true) := by
      intro z hz
      simp only [List.mem_append, List.mem_singleton] at hz
      rcases hz with (hz | hz) | hz
      · exact HWFD.out z (List.mem_of_mem_take hz)
      · rw [hz]; exact HWX.out
      · exact HWFD.out z (List.mem_of_mem_drop (List.mem_of_mem_take hz))
    have HLM : Hid ((((Num.dig c).take q ++ [(x : Int)]) ++ ((Num.dig c).drop q).take (n2 - q)).length = n2 + 1) := by
      show _ = _
      have := HN2.out
      simp only [List.length_append, List.length_take, List.length_drop, List.length_singleton]
      omega
    have HR2 : Hid (Num.read (((Num.dig c).take q ++ [(x : Int)]) ++ ((Num.dig c).drop q).take (n2 - q)) = none) := none_mid HX.out
    have HR3 : Hid (Num.read (Num.dig c ++ [(x : Int)]) = none) := none_end HX.out
    have HWE : Hid (∀ z ∈ Num.dig c ++ [(x : Int)], (Lit.int .u8 z).wf = true) := by
      intro z hz
      rcases List.mem_append.1 hz with hz | hz
      · exact HWFD.out z hz
      · rw [List.mem_singleton.1 hz]; exact HWX.out
    have hqc : q ≤ c2 := by omega
    have hqn' : q ≤ n2 := by omega
    have hqc1 : ¬ q = c2 := by omega
    have hqc2 : ¬ (q : Int) = (c2 : Int) := by omega
    have hqc3 : ¬ c2 = q := by omega
    have hqc4 : ¬ (c2 : Int) = (q : Int) := by omega
    refine wp_region_any hmx ?_
    try (change wpAny _ _ _ _ _ _ _ (World.drew _))
    refine wpAny_take (i := 1) (v := ?va2) rfl (by kernel_rfl) (by kernel_rfl) (by kernel_rfl) (fun _ _ _ h => h) (Or.inl ⟨by rfl, ?ha2⟩) ?ra2
    case ha2 => intro w; go_simp; try with_reducible rfl
    simp only [Act.put, List.getElem_toArray, List.getElem_cons_succ, List.getElem_cons_zero, List.setIfInBounds_toArray, List.set_cons_succ, List.set_cons_zero]
    refine wpAny_take (i := 2) (v := ?va5) rfl (by kernel_rfl) (by kernel_rfl) (by kernel_rfl) (fun _ _ _ h => h) (Or.inl ⟨by rfl, ?ha5⟩) ?ra5
    case ha5 => intro w; go_simp; try with_reducible rfl
    simp only [Act.put, List.getElem_toArray, List.getElem_cons_succ, List.getElem_cons_zero, List.setIfInBounds_toArray, List.set_cons_succ, List.set_cons_zero]
    refine wpAny_take (i := 3) (v := ?va8) rfl (by kernel_rfl) (by kernel_rfl) (by kernel_rfl) (fun _ _ _ h => h) (Or.inl ⟨by rfl, ?ha8⟩) ?ra8
    case ha8 => intro w; go_simp; try with_reducible rfl
    simp only [Act.put, List.getElem_toArray, List.getElem_cons_succ, List.getElem_cons_zero, List.setIfInBounds_toArray, List.set_cons_succ, List.set_cons_zero]
    refine wpAny_take (i := 5) (v := ?va11) rfl (by kernel_rfl) (by kernel_rfl) (by kernel_rfl) (fun _ _ _ h => h) (Or.inl ⟨by rfl, ?ha11⟩) ?ra11
    case ha11 => intro w; go_simp; try with_reducible rfl
    simp only [Act.put, List.getElem_toArray, List.getElem_cons_succ, List.getElem_cons_zero, List.setIfInBounds_toArray, List.set_cons_succ, List.set_cons_zero]
    refine wpAny_take (i := 8) (v := ?va14) rfl (by kernel_rfl) (by kernel_rfl) (by kernel_rfl) (fun _ _ _ h => h) (Or.inl ⟨by rfl, ?ha14⟩) ?ra14
    case ha14 => intro w; go_simp; try with_reducible rfl
    simp only [Act.put, List.getElem_toArray, List.getElem_cons_succ, List.getElem_cons_zero, List.setIfInBounds_toArray, List.set_cons_succ, List.set_cons_zero]
    refine wpAny_take (i := 9) (v := ?va17) rfl (by kernel_rfl) (by kernel_rfl) (by kernel_rfl) (fun _ _ _ h => h) (Or.inl ⟨by rfl, ?ha17⟩) ?ra17
    case ha17 => intro w; go_simp; try with_reducible rfl
    simp only [Act.put, List.getElem_toArray, List.getElem_cons_succ, List.getElem_cons_zero, List.setIfInBounds_toArray, List.set_cons_succ, List.set_cons_zero]
    refine wpAny_take (i := 10) (v := ?va20) rfl (by kernel_rfl) (by kernel_rfl) (by kernel_rfl) (fun _ _ _ h => h) (Or.inl ⟨by rfl, ?ha20⟩) ?ra20
    case ha20 => intro w; go_simp; try with_reducible rfl
    simp only [Act.put, List.getElem_toArray, List.getElem_cons_succ, List.getElem_cons_zero, List.setIfInBounds_toArray, List.set_cons_succ, List.set_cons_zero]
    refine wpAny_ready (rs := [0, 6]) (by kernel_rfl) (by simp) ?_
    refine AllReady.cons rfl (fun K hK => ?_) (AllReady.cons rfl (fun K hK => ?_) AllReady.nil)
    · go_simp
      refine hK _ _ ?_
      clear hK K
      try simp only [Act.put, List.getElem_toArray, List.getElem_cons_succ, List.getElem_cons_zero, List.setIfInBounds_toArray, List.set_cons_succ, List.set_cons_zero]
      refine wpAny_ready (rs := [4, 6]) (by kernel_rfl) (by simp) ?_
      refine AllReady.cons rfl (fun K hK => ?_) (AllReady.cons rfl (fun K hK => ?_) AllReady.nil)
      · refine step_append_bytes (by rfl) (.tmp 48) (.tmp 51) (by rfl) w5.heap.size _ 0 [] (by rfl) (owns0_bytes w5.drew) (some ⟨b2, off2, none⟩) q c2 ((Num.dig c).take q) (by rfl) (PC.out.drew.alloc _) q (Nat.zero_add _) (by omega) (by first | (simp; done) | (simp; omega)) ?_
        intro a6 c6 w6 hown6 hb6 hg6
        rw [List.nil_append] at hown6
        have BB6 : Below w5.heap.size w5 w6 := ((Below.refl _ w5).drew.alloc (Nat.le_refl _) _).trans hb6
        have HOWN6 := Lib.hid hown6
        have HB6 := Lib.hid BB6
        clear hown6 hb6 hg6 BB6
        refine hK _ _ ?_
        clear hK K
        try simp only [Act.put, List.getElem_toArray, List.getElem_cons_succ, List.getElem_cons_zero, List.setIfInBounds_toArray, List.set_cons_succ, List.set_cons_zero]
        refine wpAny_ready (rs := [6]) (by kernel_rfl) (by simp) ?_
        refine AllReady.cons rfl (fun K hK => ?_) AllReady.nil
        go_simp
        refine hK _ _ ?_
        clear hK K
        try simp only [Act.put, List.getElem_toArray, List.getElem_cons_succ, List.getElem_cons_zero, List.setIfInBounds_toArray, List.set_cons_succ, List.set_cons_zero]
        refine wpAny_ready (rs := [7]) (by kernel_rfl) (by simp) ?_
        refine AllReady.cons rfl (fun K hK => ?_) AllReady.nil
        refine step_append_bytes (by rfl) (.tmp 52) (.tmp 54) (by rfl) w5.heap.size _ q ((Num.dig c).take q) (by rfl) (HOWN6.out.alloc _) _ 1 1 [(x : Int)] (by rfl) (Sl.one HWX.out (x_cell' rfl)) (q + 1) rfl (by omega) (by have := HB6.out.size; simp; omega) ?_
        intro a7 c7 w7 hown7 hb7 _
        have HB7 : Hid (Below w5.heap.size w5 w7) := (HB6.out.alloc HB6.out.size _).trans hb7
        have HOWN7 := Lib.hid hown7
        clear hown7 hb7 HB6 HOWN6
        refine hK _ _ ?_
        clear hK K
        try simp only [Act.put, List.getElem_toArray, List.getElem_cons_succ, List.getElem_cons_zero, List.setIfInBounds_toArray, List.set_cons_succ, List.set_cons_zero]
        refine wpAny_ready (rs := [11]) (by kernel_rfl) (by simp) ?_
        refine AllReady.cons rfl (fun K hK => ?_) AllReady.nil
        refine step_append_bytes (by rfl) (.tmp 55) (.tmp 58) (by rfl) w5.heap.size _ (q + 1) ((Num.dig c).take q ++ [(x : Int)]) (by rfl) HOWN7.out (some ⟨b2, off2 + q, none⟩) (n2 - q) (c2 - q) (((Num.dig c).drop q).take (n2 - q)) (by rfl) (PD.out.below HB7.out (Nat.le_refl _)) (n2 + 1) (by omega) (by omega) HB7.out.size ?_
        intro a8 c8 w8 hown8 hb8 _
        have HB8 : Hid (Below w5.heap.size w5 w8) := HB7.out.trans hb8
        have X8 := Lib.hid (Sl.of_owns (k := .u8) hown8 HWM.out HLM.out)
        clear hown8 hb8 HB7 HOWN7
        refine hK _ _ ?_
        clear hK K
        try simp only [Act.put, List.getElem_toArray, List.getElem_cons_succ, List.getElem_cons_zero, List.setIfInBounds_toArray, List.set_cons_succ, List.set_cons_zero]
        refine wpAny_ready (rs := [12]) (by kernel_rfl) (by simp) ?_
        refine AllReady.cons rfl (fun K hK => ?_) AllReady.nil
        go_simp
        refine (read_any _ _ _ _ _ X8.out).mono ?_
        rintro e w9 ⟨h9, hb9⟩
        obtain rfl := h9.none HR2.out
        have D9 : Below w5.heap.size w5 w9 := HB8.out.trans (hb9.mono HB8.out.size)
        have S9 := Lib.hid (S5.out.below D9 (Nat.le_refl _))
        have B9 := Lib.hid (B5.trans (D9.mono B5.size))
        clear h9 hb9 D9 X8 HB8
        refine hK _ _ ?_
        clear hK K
        try simp only [Act.put, List.getElem_toArray, List.getElem_cons_succ, List.getElem_cons_zero, List.setIfInBounds_toArray, List.set_cons_succ, List.set_cons_zero]
        refine wpAny_take (i := 13) (v := ?va80) rfl (by kernel_rfl) (by kernel_rfl) (by kernel_rfl) (fun _ _ _ h => h) (Or.inl ⟨by rfl, ?ha80⟩) ?ra80
        case ha80 => intro w; go_simp; try with_reducible rfl
        simp only [Act.put, List.getElem_toArray, List.getElem_cons_succ, List.getElem_cons_zero, List.setIfInBounds_toArray, List.set_cons_succ, List.set_cons_zero]
        refine wpAny_take (i := 14) (v := ?va83) rfl (by kernel_rfl) (by kernel_rfl) (by kernel_rfl) (fun _ _ _ h => h) (Or.inl ⟨by rfl, ?ha83⟩) ?ra83
        case ha83 => intro w; go_simp; try with_reducible rfl
        simp only [Act.put, List.getElem_toArray, List.getElem_cons_succ, List.getElem_cons_zero, List.setIfInBounds_toArray, List.set_cons_succ, List.set_cons_zero]
        refine wpAny_take (i := 15) (v := ?va86) rfl (by kernel_rfl) (by kernel_rfl) (by kernel_rfl) (fun _ _ _ h => h) (Or.inl ⟨by rfl, ?ha86⟩) ?ra86
        case ha86 => intro w; go_simp; try with_reducible rfl
        simp only [Act.put, List.getElem_toArray, List.getElem_cons_succ, List.getElem_cons_zero, List.setIfInBounds_toArray, List.set_cons_succ, List.set_cons_zero]
        refine wpAny_take (i := 16) (v := ?va89) rfl (by kernel_rfl) (by kernel_rfl) (by kernel_rfl) (fun _ _ _ h => h) (Or.inl ⟨by rfl, ?ha89⟩) ?ra89
        case ha89 => intro w; go_simp; try with_reducible rfl
        simp only [Act.put, List.getElem_toArray, List.getElem_cons_succ, List.getElem_cons_zero, List.setIfInBounds_toArray, List.set_cons_succ, List.set_cons_zero]
        refine wpAny_take (i := 17) (v := ?va92) rfl (by kernel_rfl) (by kernel_rfl) (by kernel_rfl) (fun _ _ _ h => h) (Or.inl ⟨by rfl, ?ha92⟩) ?ra92
        case ha92 => intro w; go_simp; try with_reducible rfl
        simp only [Act.put, List.getElem_toArray, List.getElem_cons_succ, List.getElem_cons_zero, List.setIfInBounds_toArray, List.set_cons_succ, List.set_cons_zero]
        refine wpAny_done (by kernel_rfl) ?_ _
        clear PC PD HOZ S5 B5
        have HO9 := Lib.hid (owns0_bytes w9)
        go_wp2_with (at_builtin; first | (refine append_bytes (by rfl) (.tmp 64) (.tmp 65) (by rfl) w9.heap.size _ 0 [] (by rfl) HO9.out (some ⟨b2, off2, none⟩) n2 c2 (Num.dig c) (by rfl) (S9.out.alloc _) n2 (Nat.zero_add _) (by omega) (by simp) ?_; intro a10 c10 w10 hown10 hb10 _; rw [List.nil_append] at hown10; have HOWN10 := Lib.hid hown10; have HB10 : Hid (Below w9.heap.size w9 w10) := ((Below.refl _ w9).alloc (Nat.le_refl _) _).trans hb10; clear hown10 hb10) | (refine append_bytes (by rfl) (.tmp 66) (.tmp 68) (by rfl) w9.heap.size _ n2 (Num.dig c) (by rfl) (HOWN10.out.alloc _) _ 1 1 [(x : Int)] (by rfl) (Sl.one HWX.out (x_cell' rfl)) (n2 + 1) rfl (by omega) (by have := HB10.out.size; simp; omega) ?_; intro a11 c11 w11 hown11 hb11 _; have HOWN11 := Lib.hid hown11; have HB11 : Hid (Below w9.heap.size w9 w11) := (HB10.out.alloc HB10.out.size _).trans hb11; clear hown11 hb11 HB10))
        refine (read_any _ _ _ _ _ (Sl.of_owns (k := .u8) HOWN11.out HWE.out (by rw [List.length_append, ← HN2.out]; rfl))).mono ?_
        rintro e w12 ⟨h12, hb12⟩
        obtain rfl := h12.none HR3.out
        have B12 : Below w.heap.size w w12 := B9.out.trans ((HB11.out.trans (hb12.mono HB11.out.size)).mono B9.out.size)
        clear h12 hb12
        go_wp2
        go_ret
        exact ⟨by first | rfl | simp, B12⟩
      · go_simp
        refine hK _ _ ?_
        clear hK K
        try simp only [Act.put, List.getElem_toArray, List.getElem_cons_succ, List.getElem_cons_zero, List.setIfInBounds_toArray, List.set_cons_succ, List.set_cons_zero]
        refine wpAny_ready (rs := [4]) (by kernel_rfl) (by simp) ?_
        refine AllReady.cons rfl (fun K hK => ?_) AllReady.nil
        refine step_append_bytes (by rfl) (.tmp 48) (.tmp 51) (by rfl) w5.heap.size _ 0 [] (by rfl) ((owns0_bytes w5.drew).alloc _) (some ⟨b2, off2, none⟩) q c2 ((Num.dig c).take q) (by rfl) ((PC.out.drew.alloc _).alloc _) q (Nat.zero_add _) (by omega) (by first | (simp; done) | (simp; omega)) ?_
        intro a6 c6 w6 hown6 hb6 hg6
        rw [List.nil_append] at hown6
        have BB6 : Below w5.heap.size w5 w6 := (((Below.refl _ w5).drew.alloc (Nat.le_refl _) _).alloc (by simp) _).trans hb6
        have hx6 : w6.cell? ⟨w5.heap.size + 1, 0, none⟩ = some (.int .u8 (x : Int)) := by
          have h1 : ((w5.alloc (.cells #[] 5)).alloc (.cells #[.int .u8 (x : Int)] 5)).cell? ⟨w5.heap.size + 1, 0, none⟩ = some (.int .u8 (x : Int)) := x_cell' (by simp)
          exact x_kept (W := ((w5.alloc (.cells #[] 5)).alloc (.cells #[.int .u8 (x : Int)] 5)).drew) h1 hg6 (by simp [Value.ownBlock])
        have X6 := Lib.hid (Sl.one HWX.out hx6)
        clear hx6
        have HOWN6 := Lib.hid hown6
        have HB6 := Lib.hid BB6
        clear hown6 hb6 hg6 BB6
        refine hK _ _ ?_
        clear hK K
        try simp only [Act.put, List.getElem_toArray, List.getElem_cons_succ, List.getElem_cons_zero, List.setIfInBounds_toArray, List.set_cons_succ, List.set_cons_zero]
        refine wpAny_ready (rs := [7]) (by kernel_rfl) (by simp) ?_
        refine AllReady.cons rfl (fun K hK => ?_) AllReady.nil
        refine step_append_bytes (by rfl) (.tmp 52) (.tmp 54) (by rfl) w5.heap.size _ q ((Num.dig c).take q) (by rfl) (HOWN6.out) _ 1 1 [(x : Int)] (by rfl) (X6.out) (q + 1) rfl (by omega) (by exact HB6.out.size) ?_
        intro a7 c7 w7 hown7 hb7 _
        have HB7 : Hid (Below w5.heap.size w5 w7) := (HB6.out).trans hb7
        have HOWN7 := Lib.hid hown7
        clear hown7 hb7 HB6 HOWN6 X6
        refine hK _ _ ?_
        clear hK K
        try simp only [Act.put, List.getElem_toArray, List.getElem_cons_succ, List.getElem_cons_zero, List.setIfInBounds_toArray, List.set_cons_succ, List.set_cons_zero]
        refine wpAny_ready (rs := [11]) (by kernel_rfl) (by simp) ?_
        refine AllReady.cons rfl (fun K hK => ?_) AllReady.nil
        refine step_append_bytes (by rfl) (.tmp 55) (.tmp 58) (by rfl) w5.heap.size _ (q + 1) ((Num.dig c).take q ++ [(x : Int)]) (by rfl) HOWN7.out (some ⟨b2, off2 + q, none⟩) (n2 - q) (c2 - q) (((Num.dig c).drop q).take (n2 - q)) (by rfl) (PD.out.below HB7.out (Nat.le_refl _)) (n2 + 1) (by omega) (by omega) HB7.out.size ?_
        intro a8 c8 w8 hown8 hb8 _
        have HB8 : Hid (Below w5.heap.size w5 w8) := HB7.out.trans hb8
        have X8 := Lib.hid (Sl.of_owns (k := .u8) hown8 HWM.out HLM.out)
        clear hown8 hb8 HB7 HOWN7
        refine hK _ _ ?_
        clear hK K
        try simp only [Act.put, List.getElem_toArray, List.getElem_cons_succ, List.getElem_cons_zero, List.setIfInBounds_toArray, List.set_cons_succ, List.set_cons_zero]
        refine wpAny_ready (rs := [12]) (by kernel_rfl) (by simp) ?_
        refine AllReady.cons rfl (fun K hK => ?_) AllReady.nil
        go_simp
        refine (read_any _ _ _ _ _ X8.out).mono ?_
        rintro e w9 ⟨h9, hb9⟩
        obtain rfl := h9.none HR2.out
        have D9 : Below w5.heap.size w5 w9 := HB8.out.trans (hb9.mono HB8.out.size)
        have S9 := Lib.hid (S5.out.below D9 (Nat.le_refl _))
        have B9 := Lib.hid (B5.trans (D9.mono B5.size))
        clear h9 hb9 D9 X8 HB8
        refine hK _ _ ?_
        clear hK K
        try simp only [Act.put, List.getElem_toArray, List.getElem_cons_succ, List.getElem_cons_zero, List.setIfInBounds_toArray, List.set_cons_succ, List.set_cons_zero]
        refine wpAny_take (i := 13) (v := ?va161) rfl (by kernel_rfl) (by kernel_rfl) (by kernel_rfl) (fun _ _ _ h => h) (Or.inl ⟨by rfl, ?ha161⟩) ?ra161
        case ha161 => intro w; go_simp; try with_reducible rfl
        simp only [Act.put, List.getElem_toArray, List.getElem_cons_succ, List.getElem_cons_zero, List.setIfInBounds_toArray, List.set_cons_succ, List.set_cons_zero]
        refine wpAny_take (i := 14) (v := ?va164) rfl (by kernel_rfl) (by kernel_rfl) (by kernel_rfl) (fun _ _ _ h => h) (Or.inl ⟨by rfl, ?ha164⟩) ?ra164
        case ha164 => intro w; go_simp; try with_reducible rfl
        simp only [Act.put, List.getElem_toArray, List.getElem_cons_succ, List.getElem_cons_zero, List.setIfInBounds_toArray, List.set_cons_succ, List.set_cons_zero]
        refine wpAny_take (i := 15) (v := ?va167) rfl (by kernel_rfl) (by kernel_rfl) (by kernel_rfl) (fun _ _ _ h => h) (Or.inl ⟨by rfl, ?ha167⟩) ?ra167
        case ha167 => intro w; go_simp; try with_reducible rfl
        simp only [Act.put, List.getElem_toArray, List.getElem_cons_succ, List.getElem_cons_zero, List.setIfInBounds_toArray, List.set_cons_succ, List.set_cons_zero]
        refine wpAny_take (i := 16) (v := ?va170) rfl (by kernel_rfl) (by kernel_rfl) (by kernel_rfl) (fun _ _ _ h => h) (Or.inl ⟨by rfl, ?ha170⟩) ?ra170
        case ha170 => intro w; go_simp; try with_reducible rfl
        simp only [Act.put, List.getElem_toArray, List.getElem_cons_succ, List.getElem_cons_zero, List.setIfInBounds_toArray, List.set_cons_succ, List.set_cons_zero]
        refine wpAny_take (i := 17) (v := ?va173) rfl (by kernel_rfl) (by kernel_rfl) (by kernel_rfl) (fun _ _ _ h => h) (Or.inl ⟨by rfl, ?ha173⟩) ?ra173
        case ha173 => intro w; go_simp; try with_reducible rfl
        simp only [Act.put, List.getElem_toArray, List.getElem_cons_succ, List.getElem_cons_zero, List.setIfInBounds_toArray, List.set_cons_succ, List.set_cons_zero]
        refine wpAny_done (by kernel_rfl) ?_ _
        clear PC PD HOZ S5 B5
        have HO9 := Lib.hid (owns0_bytes w9)
        go_wp2_with (at_builtin; first | (refine append_bytes (by rfl) (.tmp 64) (.tmp 65) (by rfl) w9.heap.size _ 0 [] (by rfl) HO9.out (some ⟨b2, off2, none⟩) n2 c2 (Num.dig c) (by rfl) (S9.out.alloc _) n2 (Nat.zero_add _) (by omega) (by simp) ?_; intro a10 c10 w10 hown10 hb10 _; rw [List.nil_append] at hown10; have HOWN10 := Lib.hid hown10; have HB10 : Hid (Below w9.heap.size w9 w10) := ((Below.refl _ w9).alloc (Nat.le_refl _) _).trans hb10; clear hown10 hb10) | (refine append_bytes (by rfl) (.tmp 66) (.tmp 68) (by rfl) w9.heap.size _ n2 (Num.dig c) (by rfl) (HOWN10.out.alloc _) _ 1 1 [(x : Int)] (by rfl) (Sl.one HWX.out (x_cell' rfl)) (n2 + 1) rfl (by omega) (by have := HB10.out.size; simp; omega) ?_; intro a11 c11 w11 hown11 hb11 _; have HOWN11 := Lib.hid hown11; have HB11 : Hid (Below w9.heap.size w9 w11) := (HB10.out.alloc HB10.out.size _).trans hb11; clear hown11 hb11 HB10))
        refine (read_any _ _ _ _ _ (Sl.of_owns (k := .u8) HOWN11.out HWE.out (by rw [List.length_append, ← HN2.out]; rfl))).mono ?_
        rintro e w12 ⟨h12, hb12⟩
        obtain rfl := h12.none HR3.out
        have B12 : Below w.heap.size w w12 := B9.out.trans ((HB11.out.trans (hb12.mono HB11.out.size)).mono B9.out.size)
        clear h12 hb12
        go_wp2
        go_ret
        exact ⟨by first | rfl | simp, B12⟩
    · go_simp
      refine hK _ _ ?_
      clear hK K
      try simp only [Act.put, List.getElem_toArray, List.getElem_cons_succ, List.getElem_cons_zero, List.setIfInBounds_toArray, List.set_cons_succ, List.set_cons_zero]
      refine wpAny_ready (rs := [0]) (by kernel_rfl) (by simp) ?_
      refine AllReady.cons rfl (fun K hK => ?_) AllReady.nil
      go_simp
      refine hK _ _ ?_
      clear hK K
      try simp only [Act.put, List.getElem_toArray, List.getElem_cons_succ, List.getElem_cons_zero, List.setIfInBounds_toArray, List.set_cons_succ, List.set_cons_zero]
      refine wpAny_ready (rs := [4]) (by kernel_rfl) (by simp) ?_
      refine AllReady.cons rfl (fun K hK => ?_) AllReady.nil
      refine step_append_bytes (by rfl) (.tmp 48) (.tmp 51) (by rfl) w5.heap.size _ 0 [] (by rfl) (HOZ.out) (some ⟨b2, off2, none⟩) q c2 ((Num.dig c).take q) (by rfl) ((PC.out.drew.alloc _).alloc _) q (Nat.zero_add _) (by omega) (by first | (simp; done) | (simp; omega)) ?_
      intro a6 c6 w6 hown6 hb6 hg6
      rw [List.nil_append] at hown6
      have BB6 : Below w5.heap.size w5 w6 := (((Below.refl _ w5).drew.alloc (Nat.le_refl _) _).alloc (by simp) _).trans hb6
      have hx6 : w6.cell? ⟨w5.heap.size, 0, none⟩ = some (.int .u8 (x : Int)) := by
        have h1 : ((w5.alloc (.cells #[.int .u8 (x : Int)] 5)).alloc (.cells #[] 5)).cell? ⟨w5.heap.size, 0, none⟩ = some (.int .u8 (x : Int)) := x_alloc (x_cell' rfl)
        exact x_kept (W := ((w5.alloc (.cells #[.int .u8 (x : Int)] 5)).alloc (.cells #[] 5)).drew) h1 hg6 (by simp [Value.ownBlock])
      have X6 := Lib.hid (Sl.one HWX.out hx6)
      clear hx6
      have HOWN6 := Lib.hid hown6
      have HB6 := Lib.hid BB6
      clear hown6 hb6 hg6 BB6
      refine hK _ _ ?_
      clear hK K
      try simp only [Act.put, List.getElem_toArray, List.getElem_cons_succ, List.getElem_cons_zero, List.setIfInBounds_toArray, List.set_cons_succ, List.set_cons_zero]
      refine wpAny_ready (rs := [7]) (by kernel_rfl) (by simp) ?_
      refine AllReady.cons rfl (fun K hK => ?_) AllReady.nil
      refine step_append_bytes (by rfl) (.tmp 52) (.tmp 54) (by rfl) w5.heap.size _ q ((Num.dig c).take q) (by rfl) (HOWN6.out) _ 1 1 [(x : Int)] (by rfl) (X6.out) (q + 1) rfl (by omega) (by exact HB6.out.size) ?_
      intro a7 c7 w7 hown7 hb7 _
      have HB7 : Hid (Below w5.heap.size w5 w7) := (HB6.out).trans hb7
      have HOWN7 := Lib.hid hown7
      clear hown7 hb7 HB6 HOWN6 X6
      refine hK _ _ ?_
      clear hK K
      try simp only [Act.put, List.getElem_toArray, List.getElem_cons_succ, List.getElem_cons_zero, List.setIfInBounds_toArray, List.set_cons_succ, List.set_cons_zero]
      refine wpAny_ready (rs := [11]) (by kernel_rfl) (by simp) ?_
      refine AllReady.cons rfl (fun K hK => ?_) AllReady.nil
      refine step_append_bytes (by rfl) (.tmp 55) (.tmp 58) (by rfl) w5.heap.size _ (q + 1) ((Num.dig c).take q ++ [(x : Int)]) (by rfl) HOWN7.out (some ⟨b2, off2 + q, none⟩) (n2 - q) (c2 - q) (((Num.dig c).drop q).take (n2 - q)) (by rfl) (PD.out.below HB7.out (Nat.le_refl _)) (n2 + 1) (by omega) (by omega) HB7.out.size ?_
      intro a8 c8 w8 hown8 hb8 _
      have HB8 : Hid (Below w5.heap.size w5 w8) := HB7.out.trans hb8
      have X8 := Lib.hid (Sl.of_owns (k := .u8) hown8 HWM.out HLM.out)
      clear hown8 hb8 HB7 HOWN7
      refine hK _ _ ?_
      clear hK K
      try simp only [Act.put, List.getElem_toArray, List.getElem_cons_succ, List.getElem_cons_zero, List.setIfInBounds_toArray, List.set_cons_succ, List.set_cons_zero]
      refine wpAny_ready (rs := [12]) (by kernel_rfl) (by simp) ?_
      refine AllReady.cons rfl (fun K hK => ?_) AllReady.nil
      go_simp
      refine (read_any _ _ _ _ _ X8.out).mono ?_
      rintro e w9 ⟨h9, hb9⟩
      obtain rfl := h9.none HR2.out
      have D9 : Below w5.heap.size w5 w9 := HB8.out.trans (hb9.mono HB8.out.size)
      have S9 := Lib.hid (S5.out.below D9 (Nat.le_refl _))
      have B9 := Lib.hid (B5.trans (D9.mono B5.size))
      clear h9 hb9 D9 X8 HB8
      refine hK _ _ ?_
      clear hK K
      try simp only [Act.put, List.getElem_toArray, List.getElem_cons_succ, List.getElem_cons_zero, List.setIfInBounds_toArray, List.set_cons_succ, List.set_cons_zero]
      refine wpAny_take (i := 13) (v := ?va248) rfl (by kernel_rfl) (by kernel_rfl) (by kernel_rfl) (fun _ _ _ h => h) (Or.inl ⟨by rfl, ?ha248⟩) ?ra248
      case ha248 => intro w; go_simp; try with_reducible rfl
      simp only [Act.put, List.getElem_toArray, List.getElem_cons_succ, List.getElem_cons_zero, List.setIfInBounds_toArray, List.set_cons_succ, List.set_cons_zero]
      refine wpAny_take (i := 14) (v := ?va251) rfl (by kernel_rfl) (by kernel_rfl) (by kernel_rfl) (fun _ _ _ h => h) (Or.inl ⟨by rfl, ?ha251⟩) ?ra251
      case ha251 => intro w; go_simp; try with_reducible rfl
      simp only [Act.put, List.getElem_toArray, List.getElem_cons_succ, List.getElem_cons_zero, List.setIfInBounds_toArray, List.set_cons_succ, List.set_cons_zero]
      refine wpAny_take (i := 15) (v := ?va254) rfl (by kernel_rfl) (by kernel_rfl) (by kernel_rfl) (fun _ _ _ h => h) (Or.inl ⟨by rfl, ?ha254⟩) ?ra254
      case ha254 => intro w; go_simp; try with_reducible rfl
      simp only [Act.put, List.getElem_toArray, List.getElem_cons_succ, List.getElem_cons_zero, List.setIfInBounds_toArray, List.set_cons_succ, List.set_cons_zero]
      refine wpAny_take (i := 16) (v := ?va257) rfl (by kernel_rfl) (by kernel_rfl) (by kernel_rfl) (fun _ _ _ h => h) (Or.inl ⟨by rfl, ?ha257⟩) ?ra257
      case ha257 => intro w; go_simp; try with_reducible rfl
      simp only [Act.put, List.getElem_toArray, List.getElem_cons_succ, List.getElem_cons_zero, List.setIfInBounds_toArray, List.set_cons_succ, List.set_cons_zero]
      refine wpAny_take (i := 17) (v := ?va260) rfl (by kernel_rfl) (by kernel_rfl) (by kernel_rfl) (fun _ _ _ h => h) (Or.inl ⟨by rfl, ?ha260⟩) ?ra260
      case ha260 => intro w; go_simp; try with_reducible rfl
      simp only [Act.put, List.getElem_toArray, List.getElem_cons_succ, List.getElem_cons_zero, List.setIfInBounds_toArray, List.set_cons_succ, List.set_cons_zero]
      refine wpAny_done (by kernel_rfl) ?_ _
      clear PC PD HOZ S5 B5
      have HO9 := Lib.hid (owns0_bytes w9)
      go_wp2_with (at_builtin; first | (refine append_bytes (by rfl) (.tmp 64) (.tmp 65) (by rfl) w9.heap.size _ 0 [] (by rfl) HO9.out (some ⟨b2, off2, none⟩) n2 c2 (Num.dig c) (by rfl) (S9.out.alloc _) n2 (Nat.zero_add _) (by omega) (by simp) ?_; intro a10 c10 w10 hown10 hb10 _; rw [List.nil_append] at hown10; have HOWN10 := Lib.hid hown10; have HB10 : Hid (Below w9.heap.size w9 w10) := ((Below.refl _ w9).alloc (Nat.le_refl _) _).trans hb10; clear hown10 hb10) | (refine append_bytes (by rfl) (.tmp 66) (.tmp 68) (by rfl) w9.heap.size _ n2 (Num.dig c) (by rfl) (HOWN10.out.alloc _) _ 1 1 [(x : Int)] (by rfl) (Sl.one HWX.out (x_cell' rfl)) (n2 + 1) rfl (by omega) (by have := HB10.out.size; simp; omega) ?_; intro a11 c11 w11 hown11 hb11 _; have HOWN11 := Lib.hid hown11; have HB11 : Hid (Below w9.heap.size w9 w11) := (HB10.out.alloc HB10.out.size _).trans hb11; clear hown11 hb11 HB10))
      refine (read_any _ _ _ _ _ (Sl.of_owns (k := .u8) HOWN11.out HWE.out (by rw [List.length_append, ← HN2.out]; rfl))).mono ?_
      rintro e w12 ⟨h12, hb12⟩
      obtain rfl := h12.none HR3.out
      have B12 : Below w.heap.size w w12 := B9.out.trans ((HB11.out.trans (hb12.mono HB11.out.size)).mono B9.out.size)
      clear h12 hb12
      go_wp2
      go_ret
      exact ⟨by first | rfl | simp, B12⟩
  have hi48 : (48 : Int) ≤ (x : Int) := by omega
  have hi48' : decide ((48 : Int) ≤ (x : Int)) = true := by simp; omega
  by_cases h57 : 57 < x
  · have hi57 : ¬ (x : Int) ≤ 57 := by omega
    have HX : Hid (¬ (48 ≤ (x : Int) ∧ (x : Int) ≤ 57)) := by show ¬ _; omega
    clear h57 h48
    go_enter Try.func6, Try.ntmps6
    go_wp2_with fail
    refine (awake_any _).mono ?_
    rintro e w1 ⟨rfl, B1⟩
    go_wp2_with fail
    refine (HWC.out _).mono ?_
    intro e w2 h2
    obtain ⟨a2, n2, c2, rfl, hn2, hs2, _, hb2⟩ := BytesIs.sl h2 (Num.dig_wf _)
    have B2 := B1.trans (hb2.mono B1.size)
    have hpos : 0 < n2 := by rw [hn2]; exact HPOS.out
    have hn20 : n2 ≤ 20 := by rw [hn2]; exact HL20.out
    have hn0 : ((n2 : Int) == 0) = false := by simp; omega
    have S2 := Lib.hid hs2
    have HN2 := Lib.hid hn2
    obtain ⟨b2, off2, rfl, _, _⟩ := hs2.at hpos
    have hnc2 := hs2.2.1
    clear h2 hn2 hs2 hb2 B1
    obtain ⟨q, hq, hqn⟩ : ∃ q : Nat, (p : Int) % (n2 : Int) = (q : Int) ∧ q < n2 := ⟨p % n2, by simp, Nat.mod_lt _ hpos⟩
    have HO0 := Lib.hid (owns0_bytes w2)
    have hsz := B2.size
    go_wp2_with (at_builtin; refine append_bytes (by rfl) (.tmp 35) (.tmp 36) (by rfl) w2.heap.size _ 0 [] (by rfl) HO0.out (some ⟨b2, off2, none⟩) n2 c2 (Num.dig c) (by rfl) (S2.out.alloc _) n2 (Nat.zero_add _) (by omega) (by simp) ?_; intro a3 c3 w3 hown3 hb3 hn3; rw [List.nil_append] at hown3; obtain ⟨g3, hg3, hbg3⟩ := owns_some hown3 hpos; subst hg3; have hf3 := hown3.frozenAt q; have hcl3 := own_cell hown3 q (Num.dig c) rfl HN2.out hqn; have HOWN3 := Lib.hid hown3; have HB3 := Lib.hid hb3; have HN3 := Lib.hid hbg3; clear hown3 hb3 hn3 hbg3)
    have hown4 := owns_set HOWN3.out q (x : Int)
    have hlen : ((Num.dig c).set q (x : Int)).length = n2 := by rw [List.length_set, HN2.out]
    have Y := Lib.hid (Sl.of_owns (k := .u8) hown4 (fun z hz => by
      rcases List.mem_or_eq_of_mem_set hz with hz | hz
      · exact HWFD.out z hz
      · rw [hz]; exact WalkArith.wf_u8 ⟨by omega, by omega⟩) hlen)
    have hb3 := HB3.out
    have B3 := (B2.alloc B2.size _).trans (hb3.mono hsz)
    have D3 : Below w2.heap.size w2 w3 := ((Below.refl _ w2).alloc (Nat.le_refl _) _).trans hb3
    have S3 := Lib.hid (S2.out.below D3 (Nat.le_refl _))
    have B4 := B3.setCell (p := ⟨g3, q, none⟩) (Nat.le_trans hsz HN3.out) (.int .u8 (x : Int))
    have D4 : Below w2.heap.size w2 (w3.setCell ⟨g3, q, none⟩ (.int .u8 (x : Int))) := D3.setCell (p := ⟨g3, q, none⟩) HN3.out (.int .u8 (x : Int))
    have S4 := Lib.hid (S2.out.below D4 (Nat.le_refl _))
    have HR1 : Hid (Num.read ((Num.dig c).set q (x : Int)) = none) := none_set (by rw [← HN2.out]; exact hqn) HX.out
    clear hown4 hlen hb3 B3 D3 S3 D4 HB3 HOWN3 HN3 hcl3 hf3 B2 hsz HO0
    refine (read_any _ _ _ _ _ Y.out).mono ?_
    rintro e w5 ⟨h5, hb5⟩
    obtain rfl := h5.none HR1.out
    have S5 := Lib.hid (S4.out.below hb5 (Nat.le_refl _))
    have B5 := B4.trans (hb5.mono B4.size)
    clear h5 hb5 Y S4 B4 S2
    have hmx : Try.prog.follows .mixedOrders = true := by kernel_rfl
    go_wp2_with fail
    have HWX : Hid ((Lit.int .u8 (x : Int)).wf = true) := WalkArith.wf_u8 ⟨by omega, by omega⟩
    have PC := Lib.hid (S5.out.first q (by omega))
    have PD := Lib.hid (S5.out.piece q (n2 - q) (by omega))
    have HOZ : Hid (((w5.drew.alloc (.cells #[.int .u8 (x : Int)] 5)).alloc (.cells #[] 5)).ownsRow w5.heap.size 5 1 (.slice (some ⟨w5.heap.size + 1, 0, none⟩) 0 0) 0 (u8s [])) := by
      have h := owns0_le (B := w5.heap.size) (w := w5.drew.alloc (.cells #[.int .u8 (x : Int)] 5)) (by simp)
      show World.ownsRow _ _ _ _ _ _ _
      simpa using h
    have HWM : Hid (∀ z ∈ ((Num.dig c).take q ++ [(x : Int)]) ++ ((Num.dig c).drop q).take (n2 - q), (Lit.int .u8 z).wf = true) := by
      intro z hz
      simp only [List.mem_append, List.mem_singleton] at hz
      rcases hz with (hz | hz) | hz
      · exact HWFD.out z (List.mem_of_mem_take hz)
      · rw [hz]; exact HWX.out
      · exact HWFD.out z (List.mem_of_mem_drop (List.mem_of_mem_take hz))
    have HLM : Hid ((((Num.dig c).take q ++ [(x : Int)]) ++ ((Num.dig c).drop q).take (n2 - q)).length = n2 + 1) := by
      show _ = _
      have := HN2.out
      simp only [List.length_append, List.length_take, List.length_drop, List.length_singleton]
      omega
    have HR2 : Hid (Num.read (((Num.dig c).take q ++ [(x : Int)]) ++ ((Num.dig c).drop q).take (n2 - q)) = none) := none_mid HX.out
    have HR3 : Hid (Num.read (Num.dig c ++ [(x : Int)]) = none) := none_end HX.out
    have HWE : Hid (∀ z ∈ Num.dig c ++ [(x : Int)], (Lit.int .u8 z).wf = true) := by
      intro z hz
      rcases List.mem_append.1 hz with hz | hz
      · exact HWFD.out z hz
      · rw [List.mem_singleton.1 hz]; exact HWX.out
    have hqc : q ≤ c2 := by omega
    have hqn' : q ≤ n2 := by omega
    have hqc1 : ¬ q = c2 := by omega
    have hqc2 : ¬ (q : Int) = (c2 : Int) := by omega
    have hqc3 : ¬ c2 = q := by omega
    have hqc4 : ¬ (c2 : Int) = (q : Int) := by omega
    refine wp_region_any hmx ?_
    try (change wpAny _ _ _ _ _ _ _ (World.drew _))
    refine wpAny_take (i := 1) (v := ?vb2) rfl (by kernel_rfl) (by kernel_rfl) (by kernel_rfl) (fun _ _ _ h => h) (Or.inl ⟨by rfl, ?hb2⟩) ?rb2
    case hb2 => intro w; go_simp; try with_reducible rfl
    simp only [Act.put, List.getElem_toArray, List.getElem_cons_succ, List.getElem_cons_zero, List.setIfInBounds_toArray, List.set_cons_succ, List.set_cons_zero]
    refine wpAny_take (i := 2) (v := ?vb5) rfl (by kernel_rfl) (by kernel_rfl) (by kernel_rfl) (fun _ _ _ h => h) (Or.inl ⟨by rfl, ?hb5⟩) ?rb5
    case hb5 => intro w; go_simp; try with_reducible rfl
    simp only [Act.put, List.getElem_toArray, List.getElem_cons_succ, List.getElem_cons_zero, List.setIfInBounds_toArray, List.set_cons_succ, List.set_cons_zero]
    refine wpAny_take (i := 3) (v := ?vb8) rfl (by kernel_rfl) (by kernel_rfl) (by kernel_rfl) (fun _ _ _ h => h) (Or.inl ⟨by rfl, ?hb8⟩) ?rb8
    case hb8 => intro w; go_simp; try with_reducible rfl
    simp only [Act.put, List.getElem_toArray, List.getElem_cons_succ, List.getElem_cons_zero, List.setIfInBounds_toArray, List.set_cons_succ, List.set_cons_zero]
    refine wpAny_take (i := 5) (v := ?vb11) rfl (by kernel_rfl) (by kernel_rfl) (by kernel_rfl) (fun _ _ _ h => h) (Or.inl ⟨by rfl, ?hb11⟩) ?rb11
    case hb11 => intro w; go_simp; try with_reducible rfl
    simp only [Act.put, List.getElem_toArray, List.getElem_cons_succ, List.getElem_cons_zero, List.setIfInBounds_toArray, List.set_cons_succ, List.set_cons_zero]
    refine wpAny_take (i := 8) (v := ?vb14) rfl (by kernel_rfl) (by kernel_rfl) (by kernel_rfl) (fun _ _ _ h => h) (Or.inl ⟨by rfl, ?hb14⟩) ?rb14
    case hb14 => intro w; go_simp; try with_reducible rfl
    simp only [Act.put, List.getElem_toArray, List.getElem_cons_succ, List.getElem_cons_zero, List.setIfInBounds_toArray, List.set_cons_succ, List.set_cons_zero]
    refine wpAny_take (i := 9) (v := ?vb17) rfl (by kernel_rfl) (by kernel_rfl) (by kernel_rfl) (fun _ _ _ h => h) (Or.inl ⟨by rfl, ?hb17⟩) ?rb17
    case hb17 => intro w; go_simp; try with_reducible rfl
    simp only [Act.put, List.getElem_toArray, List.getElem_cons_succ, List.getElem_cons_zero, List.setIfInBounds_toArray, List.set_cons_succ, List.set_cons_zero]
    refine wpAny_take (i := 10) (v := ?vb20) rfl (by kernel_rfl) (by kernel_rfl) (by kernel_rfl) (fun _ _ _ h => h) (Or.inl ⟨by rfl, ?hb20⟩) ?rb20
    case hb20 => intro w; go_simp; try with_reducible rfl
    simp only [Act.put, List.getElem_toArray, List.getElem_cons_succ, List.getElem_cons_zero, List.setIfInBounds_toArray, List.set_cons_succ, List.set_cons_zero]
    refine wpAny_ready (rs := [0, 6]) (by kernel_rfl) (by simp) ?_
    refine AllReady.cons rfl (fun K hK => ?_) (AllReady.cons rfl (fun K hK => ?_) AllReady.nil)
    · go_simp
      refine hK _ _ ?_
      clear hK K
      try simp only [Act.put, List.getElem_toArray, List.getElem_cons_succ, List.getElem_cons_zero, List.setIfInBounds_toArray, List.set_cons_succ, List.set_cons_zero]
      refine wpAny_ready (rs := [4, 6]) (by kernel_rfl) (by simp) ?_
      refine AllReady.cons rfl (fun K hK => ?_) (AllReady.cons rfl (fun K hK => ?_) AllReady.nil)
      · refine step_append_bytes (by rfl) (.tmp 48) (.tmp 51) (by rfl) w5.heap.size _ 0 [] (by rfl) (owns0_bytes w5.drew) (some ⟨b2, off2, none⟩) q c2 ((Num.dig c).take q) (by rfl) (PC.out.drew.alloc _) q (Nat.zero_add _) (by omega) (by first | (simp; done) | (simp; omega)) ?_
        intro a6 c6 w6 hown6 hb6 hg6
        rw [List.nil_append] at hown6
        have BB6 : Below w5.heap.size w5 w6 := ((Below.refl _ w5).drew.alloc (Nat.le_refl _) _).trans hb6
        have HOWN6 := Lib.hid hown6
        have HB6 := Lib.hid BB6
        clear hown6 hb6 hg6 BB6
        refine hK _ _ ?_
        clear hK K
        try simp only [Act.put, List.getElem_toArray, List.getElem_cons_succ, List.getElem_cons_zero, List.setIfInBounds_toArray, List.set_cons_succ, List.set_cons_zero]
        refine wpAny_ready (rs := [6]) (by kernel_rfl) (by simp) ?_
        refine AllReady.cons rfl (fun K hK => ?_) AllReady.nil
        go_simp
        refine hK _ _ ?_
        clear hK K
        try simp only [Act.put, List.getElem_toArray, List.getElem_cons_succ, List.getElem_cons_zero, List.setIfInBounds_toArray, List.set_cons_succ, List.set_cons_zero]
        refine wpAny_ready (rs := [7]) (by kernel_rfl) (by simp) ?_
        refine AllReady.cons rfl (fun K hK => ?_) AllReady.nil
        refine step_append_bytes (by rfl) (.tmp 52) (.tmp 54) (by rfl) w5.heap.size _ q ((Num.dig c).take q) (by rfl) (HOWN6.out.alloc _) _ 1 1 [(x : Int)] (by rfl) (Sl.one HWX.out (x_cell' rfl)) (q + 1) rfl (by omega) (by have := HB6.out.size; simp; omega) ?_
        intro a7 c7 w7 hown7 hb7 _
        have HB7 : Hid (Below w5.heap.size w5 w7) := (HB6.out.alloc HB6.out.size _).trans hb7
        have HOWN7 := Lib.hid hown7
        clear hown7 hb7 HB6 HOWN6
        refine hK _ _ ?_
        clear hK K
        try simp only [Act.put, List.getElem_toArray, List.getElem_cons_succ, List.getElem_cons_zero, List.setIfInBounds_toArray, List.set_cons_succ, List.set_cons_zero]
        refine wpAny_ready (rs := [11]) (by kernel_rfl) (by simp) ?_
        refine AllReady.cons rfl (fun K hK => ?_) AllReady.nil
        refine step_append_bytes (by rfl) (.tmp 55) (.tmp 58) (by rfl) w5.heap.size _ (q + 1) ((Num.dig c).take q ++ [(x : Int)]) (by rfl) HOWN7.out (some ⟨b2, off2 + q, none⟩) (n2 - q) (c2 - q) (((Num.dig c).drop q).take (n2 - q)) (by rfl) (PD.out.below HB7.out (Nat.le_refl _)) (n2 + 1) (by omega) (by omega) HB7.out.size ?_
        intro a8 c8 w8 hown8 hb8 _
        have HB8 : Hid (Below w5.heap.size w5 w8) := HB7.out.trans hb8
        have X8 := Lib.hid (Sl.of_owns (k := .u8) hown8 HWM.out HLM.out)
        clear hown8 hb8 HB7 HOWN7
        refine hK _ _ ?_
        clear hK K
        try simp only [Act.put, List.getElem_toArray, List.getElem_cons_succ, List.getElem_cons_zero, List.setIfInBounds_toArray, List.set_cons_succ, List.set_cons_zero]
        refine wpAny_ready (rs := [12]) (by kernel_rfl) (by simp) ?_
        refine AllReady.cons rfl (fun K hK => ?_) AllReady.nil
        go_simp
        refine (read_any _ _ _ _ _ X8.out).mono ?_
        rintro e w9 ⟨h9, hb9⟩
        obtain rfl := h9.none HR2.out
        have D9 : Below w5.heap.size w5 w9 := HB8.out.trans (hb9.mono HB8.out.size)
        have S9 := Lib.hid (S5.out.below D9 (Nat.le_refl _))
        have B9 := Lib.hid (B5.trans (D9.mono B5.size))
        clear h9 hb9 D9 X8 HB8
        refine hK _ _ ?_
        clear hK K
        try simp only [Act.put, List.getElem_toArray, List.getElem_cons_succ, List.getElem_cons_zero, List.setIfInBounds_toArray, List.set_cons_succ, List.set_cons_zero]
        refine wpAny_take (i := 13) (v := ?vb80) rfl (by kernel_rfl) (by kernel_rfl) (by kernel_rfl) (fun _ _ _ h => h) (Or.inl ⟨by rfl, ?hb80⟩) ?rb80
        case hb80 => intro w; go_simp; try with_reducible rfl
        simp only [Act.put, List.getElem_toArray, List.getElem_cons_succ, List.getElem_cons_zero, List.setIfInBounds_toArray, List.set_cons_succ, List.set_cons_zero]
        refine wpAny_take (i := 14) (v := ?vb83) rfl (by kernel_rfl) (by kernel_rfl) (by kernel_rfl) (fun _ _ _ h => h) (Or.inl ⟨by rfl, ?hb83⟩) ?rb83
        case hb83 => intro w; go_simp; try with_reducible rfl
        simp only [Act.put, List.getElem_toArray, List.getElem_cons_succ, List.getElem_cons_zero, List.setIfInBounds_toArray, List.set_cons_succ, List.set_cons_zero]
        refine wpAny_take (i := 15) (v := ?vb86) rfl (by kernel_rfl) (by kernel_rfl) (by kernel_rfl) (fun _ _ _ h => h) (Or.inl ⟨by rfl, ?hb86⟩) ?rb86
        case hb86 => intro w; go_simp; try with_reducible rfl
        simp only [Act.put, List.getElem_toArray, List.getElem_cons_succ, List.getElem_cons_zero, List.setIfInBounds_toArray, List.set_cons_succ, List.set_cons_zero]
        refine wpAny_take (i := 16) (v := ?vb89) rfl (by kernel_rfl) (by kernel_rfl) (by kernel_rfl) (fun _ _ _ h => h) (Or.inl ⟨by rfl, ?hb89⟩) ?rb89
        case hb89 => intro w; go_simp; try with_reducible rfl
        simp only [Act.put, List.getElem_toArray, List.getElem_cons_succ, List.getElem_cons_zero, List.setIfInBounds_toArray, List.set_cons_succ, List.set_cons_zero]
        refine wpAny_take (i := 17) (v := ?vb92) rfl (by kernel_rfl) (by kernel_rfl) (by kernel_rfl) (fun _ _ _ h => h) (Or.inl ⟨by rfl, ?hb92⟩) ?rb92
        case hb92 => intro w; go_simp; try with_reducible rfl
        simp only [Act.put, List.getElem_toArray, List.getElem_cons_succ, List.getElem_cons_zero, List.setIfInBounds_toArray, List.set_cons_succ, List.set_cons_zero]
        refine wpAny_done (by kernel_rfl) ?_ _
        clear PC PD HOZ S5 B5
        have HO9 := Lib.hid (owns0_bytes w9)
        go_wp2_with (at_builtin; first | (refine append_bytes (by rfl) (.tmp 64) (.tmp 65) (by rfl) w9.heap.size _ 0 [] (by rfl) HO9.out (some ⟨b2, off2, none⟩) n2 c2 (Num.dig c) (by rfl) (S9.out.alloc _) n2 (Nat.zero_add _) (by omega) (by simp) ?_; intro a10 c10 w10 hown10 hb10 _; rw [List.nil_append] at hown10; have HOWN10 := Lib.hid hown10; have HB10 : Hid (Below w9.heap.size w9 w10) := ((Below.refl _ w9).alloc (Nat.le_refl _) _).trans hb10; clear hown10 hb10) | (refine append_bytes (by rfl) (.tmp 66) (.tmp 68) (by rfl) w9.heap.size _ n2 (Num.dig c) (by rfl) (HOWN10.out.alloc _) _ 1 1 [(x : Int)] (by rfl) (Sl.one HWX.out (x_cell' rfl)) (n2 + 1) rfl (by omega) (by have := HB10.out.size; simp; omega) ?_; intro a11 c11 w11 hown11 hb11 _; have HOWN11 := Lib.hid hown11; have HB11 : Hid (Below w9.heap.size w9 w11) := (HB10.out.alloc HB10.out.size _).trans hb11; clear hown11 hb11 HB10))
        refine (read_any _ _ _ _ _ (Sl.of_owns (k := .u8) HOWN11.out HWE.out (by rw [List.length_append, ← HN2.out]; rfl))).mono ?_
        rintro e w12 ⟨h12, hb12⟩
        obtain rfl := h12.none HR3.out
        have B12 : Below w.heap.size w w12 := B9.out.trans ((HB11.out.trans (hb12.mono HB11.out.size)).mono B9.out.size)
        clear h12 hb12
        go_wp2
        go_ret
        exact ⟨by first | rfl | simp, B12⟩
      · go_simp
        refine hK _ _ ?_
        clear hK K
        try simp only [Act.put, List.getElem_toArray, List.getElem_cons_succ, List.getElem_cons_zero, List.setIfInBounds_toArray, List.set_cons_succ, List.set_cons_zero]
        refine wpAny_ready (rs := [4]) (by kernel_rfl) (by simp) ?_
        refine AllReady.cons rfl (fun K hK => ?_) AllReady.nil
        refine step_append_bytes (by rfl) (.tmp 48) (.tmp 51) (by rfl) w5.heap.size _ 0 [] (by rfl) ((owns0_bytes w5.drew).alloc _) (some ⟨b2, off2, none⟩) q c2 ((Num.dig c).take q) (by rfl) ((PC.out.drew.alloc _).alloc _) q (Nat.zero_add _) (by omega) (by first | (simp; done) | (simp; omega)) ?_
        intro a6 c6 w6 hown6 hb6 hg6
        rw [List.nil_append] at hown6
        have BB6 : Below w5.heap.size w5 w6 := (((Below.refl _ w5).drew.alloc (Nat.le_refl _) _).alloc (by simp) _).trans hb6
        have hx6 : w6.cell? ⟨w5.heap.size + 1, 0, none⟩ = some (.int .u8 (x : Int)) := by
          have h1 : ((w5.alloc (.cells #[] 5)).alloc (.cells #[.int .u8 (x : Int)] 5)).cell? ⟨w5.heap.size + 1, 0, none⟩ = some (.int .u8 (x : Int)) := x_cell' (by simp)
          exact x_kept (W := ((w5.alloc (.cells #[] 5)).alloc (.cells #[.int .u8 (x : Int)] 5)).drew) h1 hg6 (by simp [Value.ownBlock])
        have X6 := Lib.hid (Sl.one HWX.out hx6)
        clear hx6
        have HOWN6 := Lib.hid hown6
        have HB6 := Lib.hid BB6
        clear hown6 hb6 hg6 BB6
        refine hK _ _ ?_
        clear hK K
        try simp only [Act.put, List.getElem_toArray, List.getElem_cons_succ, List.getElem_cons_zero, List.setIfInBounds_toArray, List.set_cons_succ, List.set_cons_zero]
        refine wpAny_ready (rs := [7]) (by kernel_rfl) (by simp) ?_
        refine AllReady.cons rfl (fun K hK => ?_) AllReady.nil
        refine step_append_bytes (by rfl) (.tmp 52) (.tmp 54) (by rfl) w5.heap.size _ q ((Num.dig c).take q) (by rfl) (HOWN6.out) _ 1 1 [(x : Int)] (by rfl) (X6.out) (q + 1) rfl (by omega) (by exact HB6.out.size) ?_
        intro a7 c7 w7 hown7 hb7 _
        have HB7 : Hid (Below w5.heap.size w5 w7) := (HB6.out).trans hb7
        have HOWN7 := Lib.hid hown7
        clear hown7 hb7 HB6 HOWN6 X6
        refine hK _ _ ?_
        clear hK K
        try simp only [Act.put, List.getElem_toArray, List.getElem_cons_succ, List.getElem_cons_zero, List.setIfInBounds_toArray, List.set_cons_succ, List.set_cons_zero]
        refine wpAny_ready (rs := [11]) (by kernel_rfl) (by simp) ?_
        refine AllReady.cons rfl (fun K hK => ?_) AllReady.nil
        refine step_append_bytes (by rfl) (.tmp 55) (.tmp 58) (by rfl) w5.heap.size _ (q + 1) ((Num.dig c).take q ++ [(x : Int)]) (by rfl) HOWN7.out (some ⟨b2, off2 + q, none⟩) (n2 - q) (c2 - q) (((Num.dig c).drop q).take (n2 - q)) (by rfl) (PD.out.below HB7.out (Nat.le_refl _)) (n2 + 1) (by omega) (by omega) HB7.out.size ?_
        intro a8 c8 w8 hown8 hb8 _
        have HB8 : Hid (Below w5.heap.size w5 w8) := HB7.out.trans hb8
        have X8 := Lib.hid (Sl.of_owns (k := .u8) hown8 HWM.out HLM.out)
        clear hown8 hb8 HB7 HOWN7
        refine hK _ _ ?_
        clear hK K
        try simp only [Act.put, List.getElem_toArray, List.getElem_cons_succ, List.getElem_cons_zero, List.setIfInBounds_toArray, List.set_cons_succ, List.set_cons_zero]
        refine wpAny_ready (rs := [12]) (by kernel_rfl) (by simp) ?_
        refine AllReady.cons rfl (fun K hK => ?_) AllReady.nil
        go_simp
        refine (read_any _ _ _ _ _ X8.out).mono ?_
        rintro e w9 ⟨h9, hb9⟩
        obtain rfl := h9.none HR2.out
        have D9 : Below w5.heap.size w5 w9 := HB8.out.trans (hb9.mono HB8.out.size)
        have S9 := Lib.hid (S5.out.below D9 (Nat.le_refl _))
        have B9 := Lib.hid (B5.trans (D9.mono B5.size))
        clear h9 hb9 D9 X8 HB8
        refine hK _ _ ?_
        clear hK K
        try simp only [Act.put, List.getElem_toArray, List.getElem_cons_succ, List.getElem_cons_zero, List.setIfInBounds_toArray, List.set_cons_succ, List.set_cons_zero]
        refine wpAny_take (i := 13) (v := ?vb161) rfl (by kernel_rfl) (by kernel_rfl) (by kernel_rfl) (fun _ _ _ h => h) (Or.inl ⟨by rfl, ?hb161⟩) ?rb161
        case hb161 => intro w; go_simp; try with_reducible rfl
        simp only [Act.put, List.getElem_toArray, List.getElem_cons_succ, List.getElem_cons_zero, List.setIfInBounds_toArray, List.set_cons_succ, List.set_cons_zero]
        refine wpAny_take (i := 14) (v := ?vb164) rfl (by kernel_rfl) (by kernel_rfl) (by kernel_rfl) (fun _ _ _ h => h) (Or.inl ⟨by rfl, ?hb164⟩) ?rb164
        case hb164 => intro w; go_simp; try with_reducible rfl
        simp only [Act.put, List.getElem_toArray, List.getElem_cons_succ, List.getElem_cons_zero, List.setIfInBounds_toArray, List.set_cons_succ, List.set_cons_zero]
        refine wpAny_take (i := 15) (v := ?vb167) rfl (by kernel_rfl) (by kernel_rfl) (by kernel_rfl) (fun _ _ _ h => h) (Or.inl ⟨by rfl, ?hb167⟩) ?rb167
        case hb167 => intro w; go_simp; try with_reducible rfl
        simp only [Act.put, List.getElem_toArray, List.getElem_cons_succ, List.getElem_cons_zero, List.setIfInBounds_toArray, List.set_cons_succ, List.set_cons_zero]
        refine wpAny_take (i := 16) (v := ?vb170) rfl (by kernel_rfl) (by kernel_rfl) (by kernel_rfl) (fun _ _ _ h => h) (Or.inl ⟨by rfl, ?hb170⟩) ?rb170
        case hb170 => intro w; go_simp; try with_reducible rfl
        simp only [Act.put, List.getElem_toArray, List.getElem_cons_succ, List.getElem_cons_zero, List.setIfInBounds_toArray, List.set_cons_succ, List.set_cons_zero]
        refine wpAny_take (i := 17) (v := ?vb173) rfl (by kernel_rfl) (by kernel_rfl) (by kernel_rfl) (fun _ _ _ h => h) (Or.inl ⟨by rfl, ?hb173⟩) ?rb173
        case hb173 => intro w; go_simp; try with_reducible rfl
        simp only [Act.put, List.getElem_toArray, List.getElem_cons_succ, List.getElem_cons_zero, List.setIfInBounds_toArray, List.set_cons_succ, List.set_cons_zero]
        refine wpAny_done (by kernel_rfl) ?_ _
        clear PC PD HOZ S5 B5
        have HO9 := Lib.hid (owns0_bytes w9)
        go_wp2_with (at_builtin; first | (refine append_bytes (by rfl) (.tmp 64) (.tmp 65) (by rfl) w9.heap.size _ 0 [] (by rfl) HO9.out (some ⟨b2, off2, none⟩) n2 c2 (Num.dig c) (by rfl) (S9.out.alloc _) n2 (Nat.zero_add _) (by omega) (by simp) ?_; intro a10 c10 w10 hown10 hb10 _; rw [List.nil_append] at hown10; have HOWN10 := Lib.hid hown10; have HB10 : Hid (Below w9.heap.size w9 w10) := ((Below.refl _ w9).alloc (Nat.le_refl _) _).trans hb10; clear hown10 hb10) | (refine append_bytes (by rfl) (.tmp 66) (.tmp 68) (by rfl) w9.heap.size _ n2 (Num.dig c) (by rfl) (HOWN10.out.alloc _) _ 1 1 [(x : Int)] (by rfl) (Sl.one HWX.out (x_cell' rfl)) (n2 + 1) rfl (by omega) (by have := HB10.out.size; simp; omega) ?_; intro a11 c11 w11 hown11 hb11 _; have HOWN11 := Lib.hid hown11; have HB11 : Hid (Below w9.heap.size w9 w11) := (HB10.out.alloc HB10.out.size _).trans hb11; clear hown11 hb11 HB10))
        refine (read_any _ _ _ _ _ (Sl.of_owns (k := .u8) HOWN11.out HWE.out (by rw [List.length_append, ← HN2.out]; rfl))).mono ?_
        rintro e w12 ⟨h12, hb12⟩
        obtain rfl := h12.none HR3.out
        have B12 : Below w.heap.size w w12 := B9.out.trans ((HB11.out.trans (hb12.mono HB11.out.size)).mono B9.out.size)
        clear h12 hb12
        go_wp2
        go_ret
        exact ⟨by first | rfl | simp, B12⟩
    · go_simp
      refine hK _ _ ?_
      clear hK K
      try simp only [Act.put, List.getElem_toArray, List.getElem_cons_succ, List.getElem_cons_zero, List.setIfInBounds_toArray, List.set_cons_succ, List.set_cons_zero]
      refine wpAny_ready (rs := [0]) (by kernel_rfl) (by simp) ?_
      refine AllReady.cons rfl (fun K hK => ?_) AllReady.nil
      go_simp
      refine hK _ _ ?_
      clear hK K
      try simp only [Act.put, List.getElem_toArray, List.getElem_cons_succ, List.getElem_cons_zero, List.setIfInBounds_toArray, List.set_cons_succ, List.set_cons_zero]
      refine wpAny_ready (rs := [4]) (by kernel_rfl) (by simp) ?_
      refine AllReady.cons rfl (fun K hK => ?_) AllReady.nil
      refine step_append_bytes (by rfl) (.tmp 48) (.tmp 51) (by rfl) w5.heap.size _ 0 [] (by rfl) (HOZ.out) (some ⟨b2, off2, none⟩) q c2 ((Num.dig c).take q) (by rfl) ((PC.out.drew.alloc _).alloc _) q (Nat.zero_add _) (by omega) (by first | (simp; done) | (simp; omega)) ?_
      intro a6 c6 w6 hown6 hb6 hg6
      rw [List.nil_append] at hown6
      have BB6 : Below w5.heap.size w5 w6 := (((Below.refl _ w5).drew.alloc (Nat.le_refl _) _).alloc (by simp) _).trans hb6
      have hx6 : w6.cell? ⟨w5.heap.size, 0, none⟩ = some (.int .u8 (x : Int)) := by
        have h1 : ((w5.alloc (.cells #[.int .u8 (x : Int)] 5)).alloc (.cells #[] 5)).cell? ⟨w5.heap.size, 0, none⟩ = some (.int .u8 (x : Int)) := x_alloc (x_cell' rfl)
        exact x_kept (W := ((w5.alloc (.cells #[.int .u8 (x : Int)] 5)).alloc (.cells #[] 5)).drew) h1 hg6 (by simp [Value.ownBlock])
      have X6 := Lib.hid (Sl.one HWX.out hx6)
      clear hx6
      have HOWN6 := Lib.hid hown6
      have HB6 := Lib.hid BB6
      clear hown6 hb6 hg6 BB6
      refine hK _ _ ?_
      clear hK K
      try simp only [Act.put, List.getElem_toArray, List.getElem_cons_succ, List.getElem_cons_zero, List.setIfInBounds_toArray, List.set_cons_succ, List.set_cons_zero]
      refine wpAny_ready (rs := [7]) (by kernel_rfl) (by simp) ?_
      refine AllReady.cons rfl (fun K hK => ?_) AllReady.nil
      refine step_append_bytes (by rfl) (.tmp 52) (.tmp 54) (by rfl) w5.heap.size _ q ((Num.dig c).take q) (by rfl) (HOWN6.out) _ 1 1 [(x : Int)] (by rfl) (X6.out) (q + 1) rfl (by omega) (by exact HB6.out.size) ?_
      intro a7 c7 w7 hown7 hb7 _
      have HB7 : Hid (Below w5.heap.size w5 w7) := (HB6.out).trans hb7
      have HOWN7 := Lib.hid hown7
      clear hown7 hb7 HB6 HOWN6 X6
      refine hK _ _ ?_
      clear hK K
      try simp only [Act.put, List.getElem_toArray, List.getElem_cons_succ, List.getElem_cons_zero, List.setIfInBounds_toArray, List.set_cons_succ, List.set_cons_zero]
      refine wpAny_ready (rs := [11]) (by kernel_rfl) (by simp) ?_
      refine AllReady.cons rfl (fun K hK => ?_) AllReady.nil
      refine step_append_bytes (by rfl) (.tmp 55) (.tmp 58) (by rfl) w5.heap.size _ (q + 1) ((Num.dig c).take q ++ [(x : Int)]) (by rfl) HOWN7.out (some ⟨b2, off2 + q, none⟩) (n2 - q) (c2 - q) (((Num.dig c).drop q).take (n2 - q)) (by rfl) (PD.out.below HB7.out (Nat.le_refl _)) (n2 + 1) (by omega) (by omega) HB7.out.size ?_
      intro a8 c8 w8 hown8 hb8 _
      have HB8 : Hid (Below w5.heap.size w5 w8) := HB7.out.trans hb8
      have X8 := Lib.hid (Sl.of_owns (k := .u8) hown8 HWM.out HLM.out)
      clear hown8 hb8 HB7 HOWN7
      refine hK _ _ ?_
      clear hK K
      try simp only [Act.put, List.getElem_toArray, List.getElem_cons_succ, List.getElem_cons_zero, List.setIfInBounds_toArray, List.set_cons_succ, List.set_cons_zero]
      refine wpAny_ready (rs := [12]) (by kernel_rfl) (by simp) ?_
      refine AllReady.cons rfl (fun K hK => ?_) AllReady.nil
      go_simp
      refine (read_any _ _ _ _ _ X8.out).mono ?_
      rintro e w9 ⟨h9, hb9⟩
      obtain rfl := h9.none HR2.out
      have D9 : Below w5.heap.size w5 w9 := HB8.out.trans (hb9.mono HB8.out.size)
      have S9 := Lib.hid (S5.out.below D9 (Nat.le_refl _))
      have B9 := Lib.hid (B5.trans (D9.mono B5.size))
      clear h9 hb9 D9 X8 HB8
      refine hK _ _ ?_
      clear hK K
      try simp only [Act.put, List.getElem_toArray, List.getElem_cons_succ, List.getElem_cons_zero, List.setIfInBounds_toArray, List.set_cons_succ, List.set_cons_zero]
      refine wpAny_take (i := 13) (v := ?vb248) rfl (by kernel_rfl) (by kernel_rfl) (by kernel_rfl) (fun _ _ _ h => h) (Or.inl ⟨by rfl, ?hb248⟩) ?rb248
      case hb248 => intro w; go_simp; try with_reducible rfl
      simp only [Act.put, List.getElem_toArray, List.getElem_cons_succ, List.getElem_cons_zero, List.setIfInBounds_toArray, List.set_cons_succ, List.set_cons_zero]
      refine wpAny_take (i := 14) (v := ?vb251) rfl (by kernel_rfl) (by kernel_rfl) (by kernel_rfl) (fun _ _ _ h => h) (Or.inl ⟨by rfl, ?hb251⟩) ?rb251
      case hb251 => intro w; go_simp; try with_reducible rfl
      simp only [Act.put, List.getElem_toArray, List.getElem_cons_succ, List.getElem_cons_zero, List.setIfInBounds_toArray, List.set_cons_succ, List.set_cons_zero]
      refine wpAny_take (i := 15) (v := ?vb254) rfl (by kernel_rfl) (by kernel_rfl) (by kernel_rfl) (fun _ _ _ h => h) (Or.inl ⟨by rfl, ?hb254⟩) ?rb254
      case hb254 => intro w; go_simp; try with_reducible rfl
      simp only [Act.put, List.getElem_toArray, List.getElem_cons_succ, List.getElem_cons_zero, List.setIfInBounds_toArray, List.set_cons_succ, List.set_cons_zero]
      refine wpAny_take (i := 16) (v := ?vb257) rfl (by kernel_rfl) (by kernel_rfl) (by kernel_rfl) (fun _ _ _ h => h) (Or.inl ⟨by rfl, ?hb257⟩) ?rb257
      case hb257 => intro w; go_simp; try with_reducible rfl
      simp only [Act.put, List.getElem_toArray, List.getElem_cons_succ, List.getElem_cons_zero, List.setIfInBounds_toArray, List.set_cons_succ, List.set_cons_zero]
      refine wpAny_take (i := 17) (v := ?vb260) rfl (by kernel_rfl) (by kernel_rfl) (by kernel_rfl) (fun _ _ _ h => h) (Or.inl ⟨by rfl, ?hb260⟩) ?rb260
      case hb260 => intro w; go_simp; try with_reducible rfl
      simp only [Act.put, List.getElem_toArray, List.getElem_cons_succ, List.getElem_cons_zero, List.setIfInBounds_toArray, List.set_cons_succ, List.set_cons_zero]
      refine wpAny_done (by kernel_rfl) ?_ _
      clear PC PD HOZ S5 B5
      have HO9 := Lib.hid (owns0_bytes w9)
      go_wp2_with (at_builtin; first | (refine append_bytes (by rfl) (.tmp 64) (.tmp 65) (by rfl) w9.heap.size _ 0 [] (by rfl) HO9.out (some ⟨b2, off2, none⟩) n2 c2 (Num.dig c) (by rfl) (S9.out.alloc _) n2 (Nat.zero_add _) (by omega) (by simp) ?_; intro a10 c10 w10 hown10 hb10 _; rw [List.nil_append] at hown10; have HOWN10 := Lib.hid hown10; have HB10 : Hid (Below w9.heap.size w9 w10) := ((Below.refl _ w9).alloc (Nat.le_refl _) _).trans hb10; clear hown10 hb10) | (refine append_bytes (by rfl) (.tmp 66) (.tmp 68) (by rfl) w9.heap.size _ n2 (Num.dig c) (by rfl) (HOWN10.out.alloc _) _ 1 1 [(x : Int)] (by rfl) (Sl.one HWX.out (x_cell' rfl)) (n2 + 1) rfl (by omega) (by have := HB10.out.size; simp; omega) ?_; intro a11 c11 w11 hown11 hb11 _; have HOWN11 := Lib.hid hown11; have HB11 : Hid (Below w9.heap.size w9 w11) := (HB10.out.alloc HB10.out.size _).trans hb11; clear hown11 hb11 HB10))
      refine (read_any _ _ _ _ _ (Sl.of_owns (k := .u8) HOWN11.out HWE.out (by rw [List.length_append, ← HN2.out]; rfl))).mono ?_
      rintro e w12 ⟨h12, hb12⟩
      obtain rfl := h12.none HR3.out
      have B12 : Below w.heap.size w w12 := B9.out.trans ((HB11.out.trans (hb12.mono HB11.out.size)).mono B9.out.size)
      clear h12 hb12
      go_wp2
      go_ret
      exact ⟨by first | rfl | simp, B12⟩
  have hi57 : (x : Int) ≤ 57 := by omega
  have hi57' : decide ((x : Int) ≤ 57) = true := by simp; omega
  clear h48 h57
  go_enter Try.func6, Try.ntmps6
  go_wp2_with fail
  refine (awake_any _).mono ?_
  rintro e w1 ⟨rfl, B1⟩
  go_wp2_with fail
  refine (HWC.out _).mono ?_
  intro e w2 h2
  obtain ⟨a2, n2, c2, rfl, hn2, hs2, _, hb2⟩ := BytesIs.sl h2 (Num.dig_wf _)
  have B2 := B1.trans (hb2.mono B1.size)
  clear h2 hn2 hs2 hb2 B1
  go_wp2
  go_ret
  exact ⟨rfl, B2⟩
  -- go_enter Try.func6, Try.ntmps6
  -- go_wp2
  -- go_ret
  -- exact ⟨rfl, by repeat (first | exact Grown.refl _ | apply Grown.drew | apply Grown.alloc)⟩

/-! ### THE ROW's STEP: WRITTEN OUT: LEAVE IT -/
set_option maxRecDepth 100000 in
theorem lifted (os : Os) (started : os.Started) (H : Type) (enc : TypeId × Value → H) :
    ReturnsInHanded {} Try.checked os 6 .any (Rows.numWrongSpec.pre6 enc Try.prog Try.f6 Rows.numWrongRow.domain false) (Rows.numWrongSpec.post enc Try.prog Try.f6 false true false false) := by
  refine returnsInHanded_of_change (C := Try.checked) own started (by kernel_rfl) Try.func6
    (ChangeSpec.witness6 (enc := enc) (C := Try.checked) false ⟨#[], #[.int .u64 0, .int .u8 0, .int .u8 0], []⟩ 8 (by kernel_rfl) (by kernel_rfl) (by kernel_rfl) (by kernel_rfl)) ?_
  intro W base args ds gs before hval0 hW hcnd _
  have hval : ∀ (j : Nat) t v, Try.f6.params[j]? = some t → args[j]? = some v → Value.okWide Try.prog W .any base t v := hval0
  have hW' := hW
  obtain ⟨p, q, hA0, hV, rfl, hfz, hnd⟩ := hW
  have hA : DataW.TrodAll enc Try.prog W 0 (fun _ => true) true Try.f6.params.toList args.toList ds p := hA0
  rw [Try.params6] at hA hval
  obtain ⟨v0, vs0, d0, ds0, p0, q0, hargs, rfl, rfl, h0, r0⟩ := trodAll_cons hA
  obtain ⟨v1, vs1, d1, ds1, p1, q1, rfl, rfl, rfl, h1, r1⟩ := trodAll_cons r0
  obtain ⟨v2, vs2, d2, ds2, p2, q2, rfl, rfl, rfl, h2, r2⟩ := trodAll_cons r1
  obtain ⟨rfl, rfl, rfl⟩ := trodAll_nil r2
  obtain rfl : args = #[v0, v1, v2] := by cases args; simp_all
  obtain ⟨rfl, rfl⟩ := trodVars_none hV
  obtain ⟨a0, rfl, rfl, rfl, w0⟩ := open_int Try.underlying22 (hval 0 22 v0 rfl rfl) h0
  obtain ⟨a1, rfl, rfl, rfl, w1⟩ := open_int Try.underlying5 (hval 1 5 v1 rfl rfl) h1
  obtain ⟨a2, rfl, rfl, rfl, w2⟩ := open_int Try.underlying5 (hval 2 5 v2 rfl rfl) h2
  clear hA0 hval0
  refine (walk a0 a1 a2 w0 w1 w2 W).mono fun e W' ⟨he, bel⟩ => ?_
  subst he
  exact ⟨_, rfl, _, _, _, [], _, [], hW', trodAll_mk1 (shut_bool Try.underlying4 _), (trodAll_cons_mk (shut_int Try.underlying22 w0) (trodAll_cons_mk (shut_int Try.underlying5 w1) (trodAll_cons_mk (shut_int Try.underlying5 w2) trodAll_mk0))), rfl, bel.frame _, fun h => by cases h⟩

theorem over : Rows.numWrongRow.holds Try.pinned (OpenSpec.ofChange Rows.numWrongSpec) :=
  OpenClaim.holds_of_wide 6 Try.f6 rfl rfl rfl rfl rfl rfl rfl ⟨rfl, rfl, rfl, rfl, rfl⟩ rfl rfl rfl rfl rfl (by kernel_rfl) Try.func6 (by kernel_rfl)
    (of_decide_eq_true (by kernel_rfl)) (by unfold Func.isWrapper; first | (rw [if_pos (by decide +kernel)]; kernel_rfl) | (rw [if_neg (by decide +kernel)]; exact ⟨rfl, rfl⟩))
    (fun os started H enc _ => lifted os started H enc)

/-- ████ THE STATEMENT ████ -/
theorem proved : Rows.NumWrongSaid :=
  over
#print axioms proved
end Go.Proofs.Ytfoajpdjjhbmkaa.numWrong
