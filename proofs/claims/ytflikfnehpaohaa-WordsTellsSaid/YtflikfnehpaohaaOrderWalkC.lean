/- order.Find: where a word stands among words that rise, by sort.Search (the library's contract for it), and whether it is there. -/
import Derived.Test.YtflikfnehpaohaaOrderWalkB
import Derived.Test.YtflikfnehpaohaaOrderShelf
namespace Go.Proofs.Ytflikfnehpaohaa
open Go.RowKit Go.Sort

set_option maxRecDepth 100000 in
set_option maxHeartbeats 800000 in
theorem find1_is (bl bw : Nat) (a b : Option Addr) (n m cap cap2 : Nat) (xs : List Wd) (zs : List Int) (i : Nat) (r : Bool) (W : World)
    (hl : W.cell? ⟨bl, 0, none⟩ = some (.slice a n cap)) (hw : W.cell? ⟨bw, 0, none⟩ = some (.slice b m cap2)) (ha : Ws W a n cap xs) (hb : Sl .i64 W b m cap2 zs) (hi : i < n) (h : lessL ((nums xs).getD i []) zs = r) :
    Calls Try.prog 47 (#[.int .i64 i] ++ #[.pointer (some ⟨bl, 0, none⟩), .pointer (some ⟨bw, 0, none⟩)]) W fun e w' => e = .returned (.bool (!r)) ∧ ∃ q, w' = W.drewN q := by
  obtain ⟨b1, o1, a3, n3, c3, z3, rfl, _, _, hx1, hs1, hz1⟩ := ha.one i hi
  rw [hz1] at h
  have HS := Lib.hid hs1
  have HB := Lib.hid hb
  have HL := Lib.hid h
  have hlti : (i : Int) < (n : Int) := by omega
  clear ha hb h hs1 hz1
  cases r
  · go_enter Try.func47, Try.ntmps47
    go_wp2
    go_quiet ((go_at_call 22; exact Calls.quiet_of (less_is _ _ _ _ _ _ z3 zs false _ (HS.out.drewN _) (HB.out.drewN _) HL.out)))
    go_wp2
    go_ret
    exact ⟨rfl, _, rfl⟩
  · go_enter Try.func47, Try.ntmps47
    go_wp2
    go_quiet ((go_at_call 22; exact Calls.quiet_of (less_is _ _ _ _ _ _ z3 zs true _ (HS.out.drewN _) (HB.out.drewN _) HL.out)))
    go_wp2
    go_ret
    exact ⟨rfl, _, rfl⟩

set_option maxRecDepth 100000 in
theorem cnt_range (l : List (List Int)) (z : List Int) (n : Nat) (h : l.length = n) : (List.range n).countP (fun i => !!lessL (l.getD i []) z) = cnt l z := by
  subst h
  have e : l = (List.range l.length).map (fun i => l.getD i []) := by
    apply List.ext_getElem
    · simp
    · intro i h1 h2
      simp [h1]
  unfold cnt
  conv => rhs; rw [e]
  rw [List.countP_map]
  congr 1
  funext i
  simp

set_option maxHeartbeats 1600000 in
set_option maxRecDepth 100000 in
theorem find_is (a b : Option Addr) (n m cap cap2 : Nat) (xs : List Wd) (zs : List Int) (k : Nat) (r : Bool) (w : World) (ha : Ws w a n cap xs) (hb : Sl .i64 w b m cap2 zs)
    (hr : Rise (nums xs)) (hk : cnt (nums xs) zs = k) (h : decide (zs ∈ nums xs) = r) (hn : n ≤ 1000) :
    Calls Try.prog 21 #[.slice a n cap, .slice b m cap2] w fun e w' => e = .returned (.tuple #[.int .i64 (k : Nat), .bool r]) ∧ Below w.heap.size w w' := by
  have hlen : (nums xs).length = n := by rw [nums_length, ha.1]
  have hkn : k ≤ n := by rw [← hk, ← hlen]; exact cnt_le _ _
  have hfound := hr.found zs
  rw [hk, hlen, h] at hfound
  obtain ⟨W0, hW0⟩ : ∃ W0, W0 = (w.alloc (.cells #[.slice a n cap] 23)).alloc (.cells #[.slice b m cap2] 24) := ⟨_, rfl⟩
  have hB0 : Below w.heap.size w W0 := by rw [hW0]; exact ((Below.refl _ w).alloc (Nat.le_refl _) _).alloc (by simp) _
  have hsize : W0.heap.size = w.heap.size + 1 + 1 := by rw [hW0]; simp
  have ca : W0.cell? ⟨w.heap.size, 0, none⟩ = some (.slice a n cap) := by rw [hW0]; exact cell_alloc_sl _ (cell_new_sl w _ _)
  have cx : W0.cell? ⟨w.heap.size + 1, 0, none⟩ = some (.slice b m cap2) := by
    rw [hW0]; have := cell_new_sl (w.alloc (.cells #[.slice a n cap] 23)) (.slice b m cap2) 24; rwa [World.size_alloc] at this
  have hA0 := ha.below hB0 (Nat.le_refl _)
  have hC0 := hb.below hB0 (Nat.le_refl _)
  have eg : ∀ args w, (callFunc 47 args).run Try.prog w = .ok (.enter 47 args) w := enters_of Try.func47 (by kernel_rfl) rfl
  have hS := Any.sort_Search Try.searchO 47 #[.pointer (some ⟨w.heap.size, 0, none⟩), .pointer (some ⟨w.heap.size + 1, 0, none⟩)] n (fun i => !lessL ((nums xs).getD i []) zs) W0 eg (by omega)
    (fun q os i hi => (find1_is w.heap.size (w.heap.size + 1) a b n m cap cap2 xs zs i _ _ (cell_grown (by simp [hsize]; omega) ca q os) (cell_grown (by simp [hsize]) cx q os)
      (hA0.below (below_grown_sl _ W0 q os (Nat.le_refl _)) (Nat.le_refl _)) (hC0.below (below_grown_sl _ W0 q os (Nat.le_refl _)) (Nat.le_refl _)) hi rfl).mono fun _ _ ⟨he, q, hq⟩ => ⟨he, q, #[], by rw [hq, grow_empty]⟩)
    (fun i j hij hj hp => by
      have hp' : lessL ((nums xs).getD i []) zs = false := by simpa using hp
      show (!lessL ((nums xs).getD j []) zs) = true
      rw [hr.mono zs hij (by rw [hlen]; exact hj) hp']; rfl)
  rw [cnt_range (nums xs) zs n hlen, hk] at hS
  change Calls Try.prog 46 _ _ _ at hS
  have hS2 : Calls Try.prog 46 #[.int .i64 n, .func (.func 47) #[] #[.pointer (some ⟨w.heap.size, 0, none⟩), .pointer (some ⟨w.heap.size + 1, 0, none⟩)]] W0 fun e w' =>
      e = .returned (.int .i64 (k : Nat)) ∧ Below w.heap.size w w' ∧ w'.cell? ⟨w.heap.size, 0, none⟩ = some (.slice a n cap) ∧ w'.cell? ⟨w.heap.size + 1, 0, none⟩ = some (.slice b m cap2) := by
    refine hS.mono fun e w' hh => ?_
    obtain ⟨he, q, os, hw⟩ := hh
    refine ⟨he, ?_, ?_, ?_⟩
    · rw [hw]; exact hB0.trans (below_grown_sl _ W0 q os (by omega))
    · rw [hw]; exact cell_grown (by simp [hsize]; omega) ca q os
    · rw [hw]; exact cell_grown (by simp [hsize]) cx q os
  have HS := Lib.hid hS2
  have HA := Lib.hid ha
  have HB := Lib.hid hb
  have HK := Lib.hid hfound
  have HW := Lib.hid hW0
  clear hS hS2 hA0 hC0 ha hb hr hk h hB0 ca cx hfound hsize hlen eg hW0
  by_cases hlt : k < n
  · obtain ⟨z3, hz3⟩ : ∃ z3, (nums xs).getD k [] = z3 := ⟨_, rfl⟩
    have hk2 := HK.out
    rw [decide_eq_true hlt, Bool.true_and, hz3] at hk2
    have HZ3 := Lib.hid hz3
    have hc := cmp_same z3 zs
    rw [hk2] at hc
    obtain ⟨c, hcc⟩ : ∃ c, cmpL z3 zs = c := ⟨_, rfl⟩
    rw [hcc] at hc
    have HC := Lib.hid hcc
    have hd : decide ((k : Int) < (n : Int)) = true := by simp; omega
    have hd2 : (k : Int) < (n : Int) := by omega
    clear hz3 hk2 hcc
    cases r
    · have hc0 : (c == 0) = false := by simpa using hc
      have hc1 : ¬ c = 0 := by simpa using hc
      clear hc
      go_enter Try.func21, Try.ntmps21
      go_wp2_with (go_at_call 46; rw [← HW.out]; refine HS.out.mono ?_; rintro e w1 ⟨rfl, hb1, hc1, hc2⟩)
      obtain ⟨b1, o1, a3, n3, c3, z4, rfl, _, _, hx1, hs1, hz4⟩ := (HA.out.below hb1 (Nat.le_refl _)).one k hlt
      have hb2 := HB.out.below hb1 (Nat.le_refl _)
      rw [HZ3.out] at hz4
      subst hz4
      have HS1 := Lib.hid hs1
      have HB1 := Lib.hid hb2
      clear hs1 hb2
      go_quiet ((go_at_call 48; exact Calls.quiet_of (compare_is _ _ _ _ _ _ z3 zs c _ (HS1.out.drewN _) (HB1.out.drewN _) HC.out)))
      go_wp2
      go_ret2
      exact ⟨rfl, below_drewN hb1 _⟩
    · have hc0 : c = 0 := by simpa using hc
      subst hc0
      clear hc
      go_enter Try.func21, Try.ntmps21
      go_wp2_with (go_at_call 46; rw [← HW.out]; refine HS.out.mono ?_; rintro e w1 ⟨rfl, hb1, hc1, hc2⟩)
      obtain ⟨b1, o1, a3, n3, c3, z4, rfl, _, _, hx1, hs1, hz4⟩ := (HA.out.below hb1 (Nat.le_refl _)).one k hlt
      have hb2 := HB.out.below hb1 (Nat.le_refl _)
      rw [HZ3.out] at hz4
      subst hz4
      have HS1 := Lib.hid hs1
      have HB1 := Lib.hid hb2
      clear hs1 hb2
      go_quiet ((go_at_call 48; exact Calls.quiet_of (compare_is _ _ _ _ _ _ z3 zs 0 _ (HS1.out.drewN _) (HB1.out.drewN _) HC.out)))
      go_wp2
      go_ret2
      exact ⟨rfl, below_drewN hb1 _⟩
  · have hk2 := HK.out
    rw [decide_eq_false hlt, Bool.false_and] at hk2
    subst hk2
    have hd : decide ((k : Int) < (n : Int)) = false := by simp; omega
    go_enter Try.func21, Try.ntmps21
    go_wp2_with (go_at_call 46; rw [← HW.out]; refine HS.out.mono ?_; rintro e w1 ⟨rfl, hb1, hc1, hc2⟩)
    go_quiet (fail)
    go_wp2
    go_ret2
    exact ⟨rfl, below_drewN hb1 _⟩

end Go.Proofs.Ytflikfnehpaohaa
